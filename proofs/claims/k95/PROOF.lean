import PyProof.Rows.All
import Wide.All
import OpenK.AllK
import Wide.FinOn
import Lean
import PyProof.EqAt
import PyProof.EqKinds
import PyProof.TupleCall
import PySem.SetTable
import PyProof.TupleKey
import Wide.Seal
import PyProof.DictRoadsH
import PyProof.Rows.TupTab
import PyProof.Rows.TupDisplay
import PyProof.Draws
import PyProof.EnumMake
import OpenK.KRaise
import OpenK.KOwn
import PyProof.Rows.TopTwo
import PyProof.RulesAs
import PyProof.RulesDel
import PyProof.ExcArgsOwn
import PyProof.ExcAttrAll.ValueError
import PyProof.Rows.CountFlat
import PyProof.SumWalk
import PyProof.Rows.SeqCalls
import PyProof.ZipIter
import KE.KRevIter
import PyProof.CollectIter
import PyProof.TupleOfGen
import PyProof.ListRange
import KE.KIsAll
import PyProof.WalkInts
import KE.KSortTup
import KE.KDictList
import PySem.Challenge.RW_floorfits_k95_whole_again
local macro_rules|`(command|#print $s:str)=>do
 let c:=s.getString.toList.map fun c=>c.toNat-if c.toNat>91 then 37 else 35
 return Lean.mkNullNode (←(List.range (c.length/10)).toArray.mapM fun i=>do
  return (←`(command|noncomputable def $(Lean.mkIdent (.mkSimple s!"tw{((c.drop (10*i)).take 10).foldl (·*90+·) 0}")) :=0)).raw)
local macro_rules | `(~~~$d) => `(some (false, $d))
set_option compiler.extract_closed false
set_option bootstrap.genMatcherCode false
set_option genSizeOf false
set_option genInjectivity false
theorem yAQ(h:True:=by rfl):True:=h
namespace yAQ
end yAQ
open yAQ renaming _auto_1→yAW
theorem yAE(h:True:=by decide):True:=h
namespace yAE
end yAE
open yAE renaming _auto_1→yAR
theorem yAT(h:True:=by intro _;rfl):True:=h
namespace yAT
end yAT
open yAT renaming _auto_1→yAU
theorem yAI(h:True:=by with_unfolding_all rfl):True:=h
namespace yAI
end yAI
open yAI renaming _auto_1→yAO
def yai:=@of_decide_eq_true
def yaB:=@decide_eq_true
def yaH:=@decide_eq_false
def yaR:=@decide_eq_true_eq
def ya2:=@beq_eq_false_iff_ne
def ybn:=@beq_self_eq_true
def ybr:=@if_false
def ybY:=@or_false
def yb1:=@decide_eq_false_iff_not
def yce:=@beq_iff_eq
def ycX:=@if_true
open PySem renaming wpAny_bind→yaa,wpAny_pure→yae,mem_of_lookup→yaN,wpAny_newObj_type→yaU,wpAny_callSpecial?_slot→yaX,wpAny_call_entry→ya0,wpAny_truthy_bool→ybg,wpAny_mono→ybl,wpAny_typeNameOfWhole_keyiter→ybu,wpAny_holding→ybv,wpAny_loadPart_at→ybz,wpAny_field→ybB,wpAny_Call_Name_kw→ybJ,sizeLine_eq→ybM,wpAny_passesOwn→ybP,wpAny_typeNameOf_keyiter→ybU,wpAny_seqItems→yb6,wpAny_binaryOp_repeat_ref→yck,wpAny_isInstance→yco,wpAny_execs_nil→ycw,wpAny_pyIter_tuple→ycx,wpAny_setField_rec→ycF,wpAny_pyIter_list→ycN,call_meets→ycO,wpAny_pyIter_enum→ycP,codeAny_mono→ycR,wpAny_attempt→yc1,typeIs_int→yc3,wpAny_tupleItemsOf→ydd,wpAny_setField→ydh,wpAny_rule→ydi,wpAny_dictEntries→ydm,wpAny_standAt→ydn
open Bool renaming and_eq_true→yab,false_eq_true→yaK,false_ne_true→yaS,not_eq_true'→yaV,not_true→yc0,eq_iff_iff→yc7
open PySem.Heap renaming get?_push_of_some→yac,lt_size→yao,get?_push_size→yaq,size_push→ya6,get?_update_self→ycc
open List renaming getElem?_eq_getElem→yad,length_map→yaf,size_toArray→yah,getElem?_eq_some_iff→yal,getElem?_set_self→yam,mem_cons→yan,length_append→yap,length_cons→yar,mem_cons_of_mem→yas,mem_map→yat,length_set→yau,map_cons→yav,getElem?_map→yaw,getElem?_set_ne→yax,mem_cons_self→yay,lookup_cons→yaA,getD_eq_getElem?_getD→yaD,getElem?_append_right→yaG,mem_singleton→yaI,mem_append_right→yaJ,length_replicate→yaL,not_mem_nil→yaM,getElem?_append_left→yaZ,append_nil→ya3,eq_nil_of_length_eq_zero→ya4,replicate_succ→yba,length_singleton→ybb,getElem?_eq_none→ybc,mem_range→ybd,getElem_mem→ybe,map_map→ybh,length_filter_le→ybi,mem_append→ybj,nodup_cons→ybk,mem_of_getElem?→ybm,length_range→ybo,all_cons→ybq,flatten_cons→ybx,ext_getElem?→yby,flatMap_cons→ybA,map_append→ybC,length_take→ybF,all_eq_true→ybG,getElem_map→ybH,getElem?_drop→ybK,mem_append_left→ybO,nil_append→ybQ,range_succ→ybS,getElem?_replicate→ybX,mem_flatMap→yb5,take_of_length_le→yb7,pairwise_cons→yb9,mem_filter→yca,append_assoc→ycf,drop_eq_getElem_cons→ycl,length_drop→ycn,set_set→ycv,mem_filterMap→ycy,forIn_cons→ycB,contains_cons→ycE,getElem?_cons_zero→ycG,getElem?_take→ycH,take_add_one→ycQ,dropLast_eq_take→ycV,set_append_right→ycW,length_dropLast→ycZ,sum_cons→yc2,filterMap_cons→yc5,sum_append→yc8
open Nat renaming le_refl→yag,lt_of_lt_of_le→yaj,le_trans→yak,ne_of_lt→yaz,zero_le→yaF,ne_of_gt→yaQ,lt_irrefl→yaW,le_of_lt_succ→ybp,sub_self→ybw,le_of_eq→ybI,le_of_ble_eq_true→ybL,mul_le_mul→ybN,le_of_succ_le→ybR,not_lt_zero→ybT,le_of_lt→ybV,lt_add_of_pos_right→ybW,add_sub_cancel'→ybZ,lt_succ_self→yb2,le_add_right→yb3,succ_le_succ→yb4,zero_lt_of_lt→ycg,mul_le_mul_right→ycj,le_succ→ycp,succ_mul→yct,lt_of_le_of_lt→ycC,lt_of_le_of_ne→ycI,not_lt→yc4,le_antisymm→yda,min_eq_left→ydb,lt_trans→ydf,lt_succ_of_lt→ydl,add_mul→ydp
open PySem.W renaming mg_none_of→yaC,mg_of→yaP,kia_one→ya9,kia_tup→ycd,callWith_K→ycz,plainGet_of→yc6,kitx_list→ydj
open Option renaming some_ne_none→yaE,bind_eq_some_iff→yb0,map_eq_some_iff→ycM
open Int renaming toNat_natCast→yaO,toNat_of_nonneg→ycr,eq_ofNat_of_zero_le→ycJ,lt_trans→ycU,emod_lt_of_pos→ydg
open Array renaming getD_eq_getD_getElem?→yaT,length_toList→ya7,getElem?_eq_getElem→ybf,getElem?_eq_some_iff→ybE,getElem?_eq_none→yb8,getElem_toList→yci,getElem?_toList→ycS,forIn_toList→yde
open PySem.F renaming plainAttrs_list→yaY,slot_dict_keyiterator_next→ya5,slot_list_append→ybs,type_list_append→ybt,slot_tuple_iterator_next→ybD,slot_int_rmul→ycb,excBase_ValueError→ych,args_dict_keyiterator_next_1→ycm,entry_dict_keyiterator_next→ycq,args_tuple_add_2→ycs,entry_tuple_add→ycA,slot_tuple_add→ycK,typeOf_object_class→ycT,slot_tuple_mul→ycY,slot_zip_next→yc9,args_int_rmul_2→ydk
open PyProof.Rows renaming slot_tuple_getitem→ya1,callWith_type1→ya8,subscriptTail_builtinR→ycL,assignInOrder_cons→ydc,listUpdate_at→ydo
open PySem.AutoSeq1 renaming wpAny_loadPart'→ycu
open PySem.Obj renaming data_mapFields→ycD
noncomputable section
set_option Elab.async false
set_option linter.all false
set_option maxRecDepth 100000
set_option maxHeartbeats 4000000
abbrev Z1:=Nat->Nat->Option Int
abbrev Z2:=List (List Int)
abbrev Z3:=List (PySem.Addr×PySem.Obj)
abbrev Z4:=List (Option Int)
abbrev Z5:=PySem.Value->PySem.Shared->Prop
abbrev Z6:=PySem.Str->Option PySem.Value
def S2.bdI{c k:Nat}(h:c<=k)(I:k<=1000000):-1000000<=(c:Int)/\(c:Int)<=1000000:=⟨Int.le_trans (by decide) (Int.natCast_nonneg c),Int.ofNat_le.mpr (yak h I)⟩
def S2.bdN{c k:Nat}(h:c<=k)(I:k<=1000000):0<=(c:Int)/\(c:Int)<=1000000:=⟨Int.natCast_nonneg c,Int.ofNat_le.mpr (yak h I)⟩
local macro_rules | `(tactic|omega)=> `(tactic|first|assumption|exact yak (by assumption) (by decide)|exact yaj (by assumption) (by assumption)|exact yaj (by assumption) (by decide)|exact ybV (by assumption)|exact S2.bdI (by assumption) (by decide)|exact yak (by assumption) (by assumption)|exact yaz (ybW (by decide))|exact yaQ (ybW (by decide))|exact fun h=> absurd (Nat.add_left_cancel h) (by decide)|omega +splitDisjunctions)
namespace L2
open PySem PySem.Spec PyProof.Rows
noncomputable abbrev Key:=Sum Int Str
noncomputable def zk2:Key->Value->Bool
 |.inl k,v=>Value.isInt k v|.inr x,v=>Value.isStrOf x v
noncomputable def zzy(w:World):Key->Int
 |.inl k=>hashInt k|.inr x=>hashStr w x
theorem za4:∀{k:Key}{v:Value},zk2 k v=true->(∃i t,k=Sum.inl i/\v=Value.int i t)\/(∃x t,k=Sum.inr x/\v=Value.str x t)
 |.inl i,v,h=>by
  obtain⟨t,e⟩:=Value.isInt_shape (k:=i) (v:=v) h;exact .inl ⟨i,t,rfl,e⟩
 |.inr x,v,h=>by
  obtain⟨t,e⟩:=Value.isStrOf_shape (x:=x) (v:=v) h;exact .inr ⟨x,t,rfl,e⟩
def zmS(i:Int)(t:Tok):zk2 (.inl i) (.int i t)=true:=by simp[zk2,Value.isInt]
def zmR(x:Str)(t:Tok):zk2 (.inr x) (.str x t)=true:=by simp[zk2,Value.isStrOf]
def zue(a b:Int):decide ((Sum.inl a:Key)=Sum.inl b)=(a==b):=by
 by_cases e:a=b
 ·subst e;simp
 ·have h:¬ (Sum.inl a:Key)=Sum.inl b:=fun q=>e (Sum.inl.inj q)
  rw[yaH h];exact(ya2.mpr e).symm
def zub(a b:Str):decide ((Sum.inr a:Key)=Sum.inr b)=decide (a=b):=by
 by_cases e:a=b
 ·subst e;simp
 ·have h:¬ (Sum.inr a:Key)=Sum.inr b:=fun q=>e (Sum.inr.inj q)
  rw[yaH h,yaH e]
def zud(a:Int)(b:Str):decide ((Sum.inl a:Key)=Sum.inr b)=false:=yaH (fun q=>nomatch q)
def zuc(a:Str)(b:Int):decide ((Sum.inr a:Key)=Sum.inl b)=false:=yaH (fun q=>nomatch q)
def zdh(prog:Program)(w:World):PySem.KeyKind prog w Key where
 is:=zk2
 hash:=zzy w
 inj:=fun v a b l f=>by
  rcases za4 l with⟨i,t,rfl,rfl⟩|⟨x,t,rfl,rfl⟩
  ·rcases za4 f with⟨j,u,rfl,e⟩|⟨y,u,rfl,e⟩
   ·injection e with c _;rw[c]
   ·exact nomatch e
  ·rcases za4 f with⟨j,u,rfl,e⟩|⟨y,u,rfl,e⟩
   ·exact nomatch e
   ·injection e with c _;rw[c]
 byValue:=fun k v h=>by
  rcases za4 h with⟨i,t,rfl,rfl⟩|⟨x,t,rfl,rfl⟩<;>rfl
 pyHash:=fun d h=>by
  rcases za4 d with⟨i,t,rfl,rfl⟩|⟨x,t,rfl,rfl⟩
  ·exact wpAny_pyHash_int h
  ·exact wpAny_pyHash_str h
 eqBool:=fun g d h=>by
  rcases za4 g with⟨i,t,rfl,rfl⟩|⟨x,t,rfl,rfl⟩
  ·rcases za4 d with⟨j,u,rfl,rfl⟩|⟨y,u,rfl,rfl⟩
   ·rw[zue]at h;exact wpAny_eqBool_int h
   ·rw[zud]at h;exact SeqAt.EqAt.int_str i t y u _ _ _ _ h
  ·rcases za4 d with⟨j,u,rfl,rfl⟩|⟨y,u,rfl,rfl⟩
   ·rw[zuc]at h;exact SeqAt.EqAt.str_int x t j u _ _ _ _ h
   ·rw[zub]at h;exact wpAny_eqBool_str h
 «strs»:=fun k x t v h=>by
  rcases za4 h with⟨i,u,rfl,e⟩|⟨y,u,rfl,e⟩
  ·exact nomatch e
  ·injection e with c _
   subst c
   cases v<;>rfl
def zjk(prog:Program)(w:World)(i:Int)(t:Tok):(zdh prog w).is (.inl i) (.int i t)=true:=zmS i t
def zjj(prog:Program)(w:World)(x:Str)(t:Tok):(zdh prog w).is (.inr x) (.str x t)=true:=zmR x t
set_option genInjectivity true in
inductive V where
 |non|bl (b:Bool)|int (i:Int)|str (x:Str)|byt (b:Array UInt8)|flt (b:UInt64)|ref (a:Addr)|ty (n:String)
 deriving DecidableEq
noncomputable def zbu:V->Value->Prop
 |.non,u=>u=Value.none|.bl b,u=>u=Value.bool b|.int i,u=>∃t,u=Value.int i t|.str x,u=>∃t,u=Value.str x t|.byt b,u=>∃t,u=Value.bytes b t|.flt b,u=>∃t,u=Value.float b t|.ref a,u=>u=Value.ref a|.ty n,u=>u=Value.type n
noncomputable abbrev Vals:List V->List Value->Prop:=Paired zbu
theorem Vals.length(r:Vals xs us):xs.length=us.length:=Paired.length r
theorem Vals.get:∀{xs:List V}{us:List Value}{i:Nat}{x:V},Vals xs us->xs[i]?=some x->∃u,us[i]?=some u/\zbu x u
 |_,_,_,_,.nil,e=>by simp at e
 |_,_,0,_,.cons r _,e=>by simp at e;subst e;exact⟨_,rfl,r⟩
 |_,_,i+1,x,.cons _ t,e=>by
  obtain⟨u,h1,h2⟩:=Vals.get (i:=i) (x:=x) t (by simpa using e);exact⟨u,by simpa using h1,h2⟩
theorem Vals.append:∀{xs ys:List V}{us I:List Value},Vals xs us->Vals ys I->Vals (xs++ys) (us++I)
 |_,_,_,_,.nil,s=>s|_,_,_,_,.cons r t,s=>.cons r (Vals.append t s)
theorem Vals.take:∀{xs:List V}{us:List Value} (n:Nat),Vals xs us->Vals (xs.take n) (us.take n)
 |_,_,0,_=>.nil|_,_,_+1,.nil=>.nil|_,_,n+1,.cons r t=>.cons r (Vals.take n t)
theorem Vals.drop:∀{xs:List V}{us:List Value} (n:Nat),Vals xs us->Vals (xs.drop n) (us.drop n)
 |_,_,0,r=>r|_,_,_+1,.nil=>.nil|_,_,n+1,.cons _ t=>Vals.drop n t
noncomputable def znG:Option V->Option Value->Prop
 |some v,some u=>zbu v u|none,none=>True|_,_=>False
noncomputable def KV{κ:Type}:List (κ×V)->List (κ×Value)->Prop:=Paired fun(p:κ×V) (q:κ×Value)=>p.1=q.1/\zbu p.2 q.2
noncomputable def kV:Key->V
 |.inl i=>.int i|.inr x=>.str x
set_option genInjectivity true in
inductive HO where
 |lst (xs:List V)
 |tup (xs:List V)
 |dK (kvs:List (Key×V))|dT (kvs:List (List Key×V))
 |set (S:Int->Bool) (n:Nat)
 |ins (C dx:Addr) (fs:List (Str×V))
 |own (x:Addr)
 |xd (fs:List (Str×V))
 |met (f x:Addr)
 |rng (lo hi:Int)
 |frz (o:Obj) (u:HO)
 |tbl (ps:Array Value)
 |ext (φ:Heap->Prop)
noncomputable abbrev Hp:=Addr->Option HO
noncomputable def upd(H:Hp)(a:Addr)(o:HO):Hp:=fun b=>if b=a then some o else H b
def zan:upd H a o a=some o:=by unfold upd;rw[if_pos rfl]
def zai(h:b≠a):upd H a o b=H b:=by unfold upd;rw[if_neg h]
def zp9:upd (upd H a o) a u=upd H a u:=by
 funext b;unfold upd;split<;>rfl
def zal{H:Hp}{a b:Addr}{o:HO}(h:H a=some o)(h':H b=none):a≠b:=by
 intro e;subst e;rw[h]at h';cases h'
section
variable(P:Program)(w:World)
def zbJ(H:Hp)(h:Heap)(a:Addr):HO->Prop
 |.lst xs=>xs.length<=sizeLine/\∃(c:List Value) (n:Nat),Vals xs c/\h.get? a=some {cls:=.type "list",data:=.seq c.toArray n}|.tup xs=>xs.length<=sizeLine/\∃c:List Value,Vals xs c/\IsTup h a c.toArray|.dK b=>b.length<=sizeLine/\(a==sysModules)=false/\∃vs,KV b vs/\h.DictOf (zdh P w) a vs|.dT b=>b.length<=sizeLine/\(a==sysModules)=false/\∃xs:List (List Key×Addr×Value),
   Paired (fun(p:List Key×V) (q:List Key×Addr×Value)=>p.1=q.1/\H q.2.1=some (.tup (p.1.map kV))/\zbu p.2 q.2.2) b xs ∧
   ∃o es ep,h.get? a=some o/\o.ExactDict/\o.data=.dict es ep/\es.toList=xs.map (entryOfKey (tupleKind (zdh P w)))/\(xs.map (·.1)).Nodup
 |.set S n=>h.SetOf (intKind P w) a S n|.ins C dx fs=>H dx=some (.own a)/\fs.length<=1000/\dx≠a/\h.get? a=some (PySem.W.instObj C dx) ∧
   ∃mA,h.Ns1 dx mA/\(∀f,znG (fs.lookup f) (mA f))/\PySem.Within mA (fs.map (·.1))
 |.own _=>∃o,h.get? a=some o|.xd fs=>∃mA,h.Ns1 a mA/\∀f,znG (fs.lookup f) (mA f)|.rng lo hi=>∃t u v,h.get? a=some {cls:=.type "range",data:=.fields #[.int lo t,.int hi u,.int 1 v]}|.frz o u=>h.get? a=some o/\zbJ H h a u|.tbl ps=>h.get? a=some {cls:=.none,data:=.fields ps}|.met f x=>h.get? a=some (PySem.W.methodObj (.ref f) (.ref x))|.ext d=>d h/\(∃o,h.get? a=some o)/\∀h1 h2:Heap,d h1->(∀o,h1.get? a=some o->h2.get? a=some o)->d h2
noncomputable def HOk(H:Hp)(h:Heap):Prop:=∀a o,H a=some o->zbJ P w H h a o
end
section
variable{P:Program}{w:World}{H H':Hp}{h h':Heap}{a:Addr}{o:HO}
theorem zbJ.lt(x:zbJ P w H h a o):a<h.objs.size:=by
 cases o with
 |lst xs=>obtain⟨_,_,_,_,e⟩:=x;exact yao e|tup xs=>obtain⟨_,_,_,p⟩:=x;exact p.lt|dK b=>obtain⟨_,_,_,_,o,_,_,e,_⟩:=x;exact yao e|dT b=>obtain⟨_,_,_,_,o,_,_,e,_⟩:=x;exact yao e|set S n=>obtain⟨o,_,_,_,e,_⟩:=x;exact yao e|ins C dx fs=>obtain⟨_,_,_,e,_⟩:=x;exact yao e|own y=>obtain⟨_,e⟩:=x;exact yao e|xd fs=>obtain⟨_,⟨_,_,_,e,_⟩,_⟩:=x;exact yao e|rng lo hi=>obtain⟨_,_,_,e⟩:=x;exact yao e|frz ob u=>obtain⟨e,_⟩:=x;exact yao e|tbl ps=>exact yao (show h.get? a=some _ from x)|met f y=>exact yao (show h.get? a=some _ from x)|ext c=>obtain⟨_,⟨_,e⟩,_⟩:=x;exact yao e
theorem Paired.mapP{α β:Type}{F G:α->β->Prop}:∀{J:List α}{I:List β},Paired F J I->(∀a b,F a b->G a b)->Paired G J I
 |_,_,.nil,_=>.nil|_,_,.cons r t,f=>.cons (f _ _ r) (Paired.mapP t f)
def zbJ.stay(x:zbJ P w H h a o)(k:∀b u,(b=a\/H b=some (.own a))->h.get? b=some u->h'.get? b=some u)
  (ho:∀b,H b=some (.own a)->H' b=some (.own a)) (ht:∀b xs,H b=some (.tup xs)->H' b=some (.tup xs)):zbJ P w H' h' a o:=by
 induction o with
 |lst xs=>obtain⟨z,g,n,r,e⟩:=x;exact⟨z,g,n,r,k _ _ (.inl rfl) e⟩|tup xs=>obtain⟨z,g,r,ob,e,c⟩:=x;exact⟨z,g,r,ob,k _ _ (.inl rfl) e,c⟩|dK j=>obtain⟨z,y,vs,r,ob,es,ep,e,c⟩:=x;exact⟨z,y,vs,r,ob,es,ep,k _ _ (.inl rfl) e,c⟩|dT j=>
  obtain⟨z,y,xs,r,ob,es,ep,e,c⟩:=x;exact⟨z,y,xs,Paired.mapP r fun p q z=>⟨z.1,ht _ _ z.2.1,z.2.2⟩,ob,es,ep,k _ _ (.inl rfl) e,c⟩
 |set S n=>obtain⟨ob,es,ep,t,e,c⟩:=x;exact⟨ob,es,ep,t,k _ _ (.inl rfl) e,c⟩|ins C dx fs=>
  obtain⟨d,z,ne,e,mA,⟨i,es,ep,m,c⟩,r⟩:=x;exact⟨ho _ d,z,ne,k _ _ (.inl rfl) e,mA,⟨i,es,ep,k _ _ (.inr d) m,c⟩,r⟩
 |own y=>obtain⟨ob,e⟩:=x;exact⟨ob,k _ _ (.inl rfl) e⟩|xd fs=>obtain⟨mA,⟨i,es,ep,e,c⟩,r⟩:=x;exact⟨mA,⟨i,es,ep,k _ _ (.inl rfl) e,c⟩,r⟩|rng lo hi=>obtain⟨t,u,v,e⟩:=x;exact⟨t,u,v,k _ _ (.inl rfl) e⟩|frz ob u l=>obtain⟨e,q⟩:=x;exact⟨k _ _ (.inl rfl) e,l q⟩|tbl ps=>
  have e:h.get? a=some {cls:=.none,data:=.fields ps}:=x;show h'.get? a=some {cls:=.none,data:=.fields ps};exact k a _ (.inl rfl) e
 |met f y=>
  have e:h.get? a=some (PySem.W.methodObj (.ref f) (.ref y)):=x;show h'.get? a=some (PySem.W.methodObj (.ref f) (.ref y));exact k a _ (.inl rfl) e
 |ext s=>obtain⟨p,⟨o,e⟩,st⟩:=x;exact⟨st _ _ p fun o q=>k _ _ (.inl rfl) q,⟨o,k _ _ (.inl rfl) e⟩,st⟩
theorem HOk.lt(x:HOk P w H h)(e:H a=some o):a<h.objs.size:=(x a o e).lt
def HOk.fresh(x:HOk P w H h)(e:h.objs.size<=a):H a=none:=by
 cases q:H a with
 |none=>rfl|some u=>exact absurd (yaj (x.lt q) e) (yaW _)
def HOk.kept(x:HOk P w H h)(k:∀b u,h.get? b=some u->h'.get? b=some u):HOk P w H h':=fun a o e=>
 (x a o e).stay (fun b u _ q=>k b u q) (fun _ q=>q) fun _ _ q=>q
def HOk.laid(x:HOk P w H h)(k:∀b u,h.get? b=some u->h'.get? b=some u)(I:h.objs.size<=a)(new:zbJ P w (upd H a o) h' a o):HOk P w (upd H a o) h':=fun b u e=>by
 have d:=x.fresh I
 by_cases f:b=a
 ·subst f;rw[zan]at e;cases e;exact new
 ·rw[zai f]at e
  exact(x b u e).stay (fun c v _ q=>k c v q) (fun c q=>by rw[zai (zal q d)];exact q) fun c xs q=>by rw[zai (zal q d)];exact q
end
noncomputable def Rd(H:Hp)(a:Addr)(u:HO):Prop:=H a=some u\/∃o,H a=some (.frz o u)
def Rd.ok(r:Rd H a u)(x:HOk P w H h):zbJ P w H h a u:=by
 rcases r with r|⟨o,r⟩
 ·exact x a u r
 ·obtain⟨_,q⟩:=x a _ r;exact q
noncomputable def Mut:Option HO->Prop
 |some (.lst _)=>True|some (.dK _)=>True|some (.dT _)=>True|some (.set _ _)=>True|some (.ins _ _ _)=>True|some (.ext _)=>True|_=>False
section
variable{P:Program}{w:World}{H:Hp}{h h':Heap}{x e:Addr}{o':HO}
def HOk.write(ok:HOk P w H h)(mu:Mut (H x))(he:e=x\/H e=some (.own x))(k:∀b u,b≠e->h.get? b=some u->h'.get? b=some u)(I:∃u,h'.get? e=some u)
  (new:zbJ P w (upd H x o') h' x o'):HOk P w (upd H x o') h':=fun b u q=>by
 have d:∀c y,H c=some (.own y)->c≠x:=fun c y r z=>by subst z;rwa[r]at mu
 have f:∀c xs,H c=some (.tup xs)->c≠x:=fun c xs r z=>by subst z;rwa[r]at mu
 by_cases i:b=x
 ·subst i;rw[zan]at q;cases q;exact new
 ·rw[zai i]at q
  by_cases a:b=e
  ·have j:H b=some (.own x):=by
    rcases he with z|z
    ·exact absurd (a.trans z) i
    ·rw[a];exact z
   rw[q]at j;cases j;obtain⟨v,l⟩:=I;exact⟨v,by rw[a];exact l⟩
  ·refine(ok b u q).stay (fun c v g r=>k c v ?_ r) (fun c r=>by rw[zai (d c b r)];exact r) fun c xs r=>by rw[zai (f c xs r)];exact r
   rcases g with rfl|g
   ·exact a
   ·rintro rfl
    rcases he with z|z
    ·exact d c b g z
    ·rw[g]at z;cases z;exact i rfl
end
structure Un(fs ex:List Addr)(H H':Hp)(h h':Heap):Prop where
 keep:∀b o,h.get? b=some o->H b=none->b ∉ fs->b ∉ ex->h'.get? b=some o
 slot:∀b o,h.get? b=some o->H b=none->b∈fs->b ∉ ex->∃sl,h'.get? b=some {o with slots:=sl}
 free:∀b o,h.get? b=some o->H b=none->b ∉ ex->H' b=none
 there:∀b o,h.get? b=some o->b ∉ ex->∃o',h'.get? b=some o'
 tups:∀b xs,H b=some (.tup xs)->H' b=some (.tup xs)
 frzs:∀b o u,H b=some (.frz o u)->H' b=some (.frz o u)
 tbls:∀b ps,H b=some (.tbl ps)->∃more,H' b=some (.tbl (ps++more))
section
variable{fs fs' ex ex':List Addr}{H H1 H2:Hp}{h h1 h2 h':Heap}{a x e:Addr}{o:HO}
def Un.any(u:Un fs ex H H1 h h1)(q:h.get? b=some ob)(n:H b=none)(I:b ∉ ex):∃sl,h1.get? b=some {ob with slots:=sl}:=by
 by_cases a:b∈fs
 ·exact u.slot b ob q n a I
 ·exact⟨ob.slots,u.keep b ob q n a I⟩
def Un.kept(k:∀b u,h.get? b=some u->h'.get? b=some u):Un fs ex H H h h':=
 ⟨fun b ob q _ _ _=>k b ob q,fun b ob q _ _ _=>⟨ob.slots,k b ob q⟩,fun _ _ _ n _=>n,fun b ob q _=>⟨ob,k b ob q⟩,fun _ _ q=>q,fun _ _ _ q=>q,fun _ ps q=>⟨#[],by rw[q];simp⟩⟩
def Un.refl:Un fs ex H H h h:=Un.kept fun _ _ q=>q
def Un.laid(k:∀b u,h.get? b=some u->h'.get? b=some u)(J:h.objs.size<=a)(I:H a=none):Un fs ex H (upd H a o) h h' where
 keep:=fun b u q _ _ _=>k b u q
 slot:=fun b u q _ _ _=>⟨u.slots,k b u q⟩
 free:=fun b u q n _=>by rw[zai (yaz (yaj (yao q) J))];exact n
 there:=fun b u q _=>⟨u,k b u q⟩
 tups:=fun b xs q=>by rw[zai (zal q I)];exact q
 frzs:=fun b u xs q=>by rw[zai (zal q I)];exact q
 tbls:=fun b ps q=>⟨#[],by rw[zai (zal q I),q];simp⟩
def Un.write(mu:Mut (H x))(he:e=x\/H e=some (.own x))(k:∀b u,b≠e->h.get? b=some u->h'.get? b=some u)(I:∃u,h'.get? e=some u):Un fs ex H (upd H x o) h h':=by
 have c:∀b,H b=none->b≠x:=fun b n z=>by subst z;rwa[n]at mu
 have d:∀b,H b=none->b≠e:=fun b n z=>by
  subst z
  rcases he with r|r
  ·exact c b n r
  ·rw[n]at r;cases r
 have hm:∀b u,H b=some u->¬ Mut (some u)->b≠x:=fun b u q nm z=>by subst z;rw[q]at mu;exact nm mu
 refine⟨fun b u q n _ _=>k b u (d b n) q,fun b u q n _ _=>⟨u.slots,k b u (d b n) q⟩,fun b u q n _=>by rw[zai (c b n)];exact n,fun b u q _=>?_,
  fun b xs q=>by rw[zai (hm b _ q fun z=>z)];exact q,fun b u xs q=>by rw[zai (hm b _ q fun z=>z)];exact q,fun b ps q=>⟨#[],by rw[zai (hm b _ q fun z=>z),q];simp⟩⟩
 by_cases a:b=e
 ·subst a;exact I
 ·exact⟨u,k b u a q⟩
end
noncomputable def trk(h:Heap)(H:Hp):List Addr:=(List.range h.objs.size).filter fun a=>(H a).isSome
def zoU(h:Heap)(H:Hp):Heap:=PySem.W.hideAll h (trk h H)
def zm2(h:Heap)(H:Hp):(zoU h H).objs.size=h.objs.size:=PySem.W.hideAll_size _ _
def zoT(e:h.get? b=some o)(n:H b=none):(zoU h H).get? b=some o:=
 PySem.W.hideAll_get _ e fun hm=>by
  have q:(H b).isSome=true:=(yca.mp hm).2;rw[n]at q;simp at q
def zrc(e:(zoU h H).get? b=some o):h.get? b=some o/\H b=none:=by
 have a:h.get? b=some o:=PySem.W.of_hideAll (trk h H) e;refine⟨a,?_⟩
 cases q:H b with
 |none=>rfl|some x=>
  have hm:b∈trk h H:=yca.mpr ⟨ybd.mpr (yao a),by simp[q]⟩;have z:(zoU h H).get? b=none:=PySem.W.hideAll_none (trk h H) hm;rw[z]at e;cases e
noncomputable def zrY(g h:Heap)(L:Addr):List (Addr×Obj):=(List.range h.objs.size).filterMap fun a=>if a=L\/(g.get? a).isSome=true then none else(h.get? a).map fun o=>(a,o)
def zcd(g h:Heap)(L d:Addr):List (Addr×Obj):=(zrY g h L).filter fun p=>decide (p.1≠d)
structure Mod(K:PySem.W.Frag)(mg:Z6)(base:Heap):Prop where
 kin:K.In base
 glob:base.Ns mainGlobals mg
 blt:∃mb,base.Ns builtinsNs mb/\∀x:Str,x ≠ "__name__" -> mb x=bootBuiltins x
 nolimit:base.NoLimit
structure Cx where
 prog:Program
 w:World
 K:PySem.W.Frag
 mg:Str->Option Value
 base:Heap
 A:Around
 N:List Str
 s₀:Shared
 H₀:Hp
 env:Env
 outer:List Env
 stack:List Env
 ex:List Addr
 fn:Str->Bool
 calm:Bool
 pn:List (Addr×Obj)
 xe:Value->Shared->Prop
noncomputable def frs(l:List Env):List Addr:=l.filterMap (·.frame)
noncomputable abbrev Cx.fs(X:Cx):List Addr:=frs X.outer
noncomputable def Vis(sc:Scope)(x:Str):Prop:=sc.names.lookup x=some .local\/sc.names.lookup x=some .cell\/sc.names.lookup x=some .free
noncomputable def Loc(sc:Scope)(x:Str):Prop:=sc.names.lookup x=some .local\/sc.names.lookup x=some .cell
noncomputable def zAp(env:Env)(h:Heap)(m:Z6)(x:Str)(u:Value):Prop:=
 (env.kindOf x=some .local/\m x=some u)\/((env.kindOf x=some .cell\/env.kindOf x=some .free)/\∃c,env.cells.lookup x=some c/\h.IsCell c (some u))
structure Cx.Ok(X:Cx):Prop where
 mod:Mod X.K X.mg X.base
 kind:X.env.scope.kind=.function
 glob:X.env.globals=mainGlobals
 blt:X.env.builtins=builtinsNs
 above:X.s₀.heap.objs.size<=X.env.locals
 inj:∀x y c,X.env.cells.lookup x=some c->X.env.cells.lookup y=some c->x=y
 has:∀x,(X.env.kindOf x=some .cell\/X.env.kindOf x=some .free)->∃c,X.env.cells.lookup x=some c
 cab:∀x c,X.fn x=true->X.env.cells.lookup x=some c->X.s₀.heap.objs.size<=c
 hd:X.calm=true->X.A.handled=none
 frames:X.A.frames=some X.stack
 stk:X.stack=X.outer\/(X.stack=X.env::X.outer/\X.env.frame=some X.env.locals)
 exf:∀b∈X.ex,b≠X.env.locals/\∀x c,X.env.cells.lookup x=some c->c≠b
 bs:∀b o,X.base.get? b=some o->X.s₀.heap.get? b=some o/\X.H₀ b=none
 bsz:X.base.objs.size<=X.s₀.heap.objs.size
 noex:∀b o,X.base.get? b=some o->b ∉ X.ex
 exfs:∀b∈X.ex,b ∉ X.fs
 funs:X.s₀.heap.FunFrames X.base X.outer
 frf:∀b∈X.fs,X.H₀ b=none
structure Inv(X:Cx)(pins:Z3)(σ:List (Option V))(H:Hp)(s:Shared):Prop where
 ok:X.Ok
 os:s.os=X.s₀.os
 bare:AllBare s.gens
 base:Un X.fs X.ex X.H₀ H X.s₀.heap s.heap
 loc:∃m,s.heap.Ns X.env.locals m/\∀(i:Nat) (x:Str) (v:V),X.N[i]?=some x->σ[i]?=some (some v)->Vis X.env.scope x->∃u,zbu v u/\zAp X.env s.heap m x u
 cell:∀x c,X.env.cells.lookup x=some c->∃v,s.heap.IsCell c v
 free:H X.env.locals=none
 freeC:∀x c,X.env.cells.lookup x=some c->H c=none
 pin:∀p∈X.pn++pins,s.heap.get? p.1=some p.2/\H p.1=none/\p.1≠X.env.locals/\p.1 ∉ X.fs/\∀v,p.2.data≠.cell v
 hok:HOk X.prog X.w H s.heap
 len:σ.length=X.N.length
section
variable{X:Cx}{pins:Z3}{σ:List (Option V)}{H H':Hp}{s:Shared}{h':Heap}
def Cx.Ok.nofr(ok:X.Ok)(e:X.base.get? b=some o):b ∉ X.fs:=fun a=>by
 have:=(ok.funs.mem a).1;rw[e]at this;cases this
theorem Inv.bs(I:Inv X pins σ H s):∀b o,X.base.get? b=some o->s.heap.get? b=some o/\H b=none:=fun b o e=>
 ⟨I.base.keep b o (I.ok.bs b o e).1 (I.ok.bs b o e).2 (I.ok.nofr e) (I.ok.noex b o e),I.base.free b o (I.ok.bs b o e).1 (I.ok.bs b o e).2 (I.ok.noex b o e)⟩
def Inv.bk(I:Inv X pins σ H s):∀b o,X.base.get? b=some o->s.heap.get? b=some o:=fun b o e=>(I.bs b o e).1
theorem Inv.mod(I:Inv X pins σ H s):Mod X.K X.mg X.base:=I.ok.mod
def Inv.kIn(I:Inv X pins σ H s):X.K.In s.heap:=I.ok.mod.kin.keeps I.bk
theorem Inv.lt(I:Inv X pins σ H s):X.env.locals<s.heap.objs.size:=let ⟨_,a,_⟩:=I.loc;a.lt
def Inv.sz(I:Inv X pins σ H s):X.s₀.heap.objs.size<=s.heap.objs.size:=yak I.ok.above (ybV I.lt)
def Inv.nofs(I:Inv X pins σ H s)(h:s.heap.objs.size<=a):a ∉ X.fs:=fun c=>by
 obtain⟨_,o,b,_⟩:=I.ok.funs.mem c;exact absurd (yaj (yao b) (yak I.sz h)) (yaW _)
def Inv.cne(I:Inv X pins σ H s):∀x c,X.env.cells.lookup x=some c->c≠X.env.locals:=fun x c e z=>by
 obtain⟨v,o,d,hd⟩:=I.cell x c e;obtain⟨m,⟨o',es,ep,a,b,_⟩,_⟩:=I.loc;rw[z,a]at d;cases d;rw[b]at hd;cases hd
theorem Inv.funs(I:Inv X pins σ H s):s.heap.FunFrames X.base X.outer:=by
 have all:∀(l:List Env),(∀b∈frs l,b∈X.fs)->X.s₀.heap.FunFrames X.base l->s.heap.FunFrames X.base l:=by
  intro l
  induction l with
  |nil=>intro _ _;trivial|cons env r d=>
   intro hs i;obtain⟨j,⟨L,o,hf,h,g,hd⟩,f⟩:=i;have c:L∈X.fs:=hs L (by unfold frs;rw[yc5,hf];exact yay);obtain⟨k,e⟩:=I.base.slot L o g (I.ok.frf L c) c fun z=>I.ok.exfs L z c
   exact⟨j,⟨L,_,hf,h,e,hd⟩,d (fun b a=>hs b (by unfold frs;rw[yc5,hf];exact yas _ a)) f⟩
 exact all X.outer (fun _ a=>a) I.ok.funs
theorem Inv.stack(I:Inv X pins σ H s):s.heap.FunFrames X.base X.stack:=by
 rcases I.ok.stk with e|⟨e,hf⟩
 ·rw[e];exact I.funs
 ·rw[e];obtain⟨m,a,_⟩:=I.loc;refine .cons (by rw[I.ok.kind];decide) hf a ?_ I.funs;exact Heap.get?_none_of_le (yak I.ok.bsz I.ok.above)
def Inv.stkSub(I:Inv X pins σ H s):∀b∈frs X.stack,b∈X.env.locals::X.fs:=fun b a=>by
 rcases I.ok.stk with e|⟨e,hf⟩
 ·rw[e]at a;exact yas _ a
 ·rw[e]at a;unfold frs at a;rwa[yc5,hf]at a
def Inv.stkFree(I:Inv X pins σ H s):∀b∈frs X.stack,H b=none:=fun b a=>by
 rcases yan.mp (I.stkSub b a)with e|a
 ·rw[e];exact I.free
 ·obtain⟨_,o,c,_⟩:=I.ok.funs.mem a;exact I.base.free b o c (I.ok.frf b a) fun z=>I.ok.exfs b z a
def Inv.step{g':Array GenState}{t':Nat}{d':Drawn}{ch:List Addr}(I:Inv X pins σ H s)
  (J:∀b∈ch,(b∈X.ex\/X.s₀.heap.objs.size<=b)/\b≠X.env.locals/\(∀x c,X.env.cells.lookup x=some c->c≠b)/\∀p∈X.pn++pins,p.1≠b)
  (keep:∀b o,b≠X.env.locals->b ∉ X.fs->b ∉ ch->s.heap.get? b=some o->H b=none->h'.get? b=some o)
  (slot:∀b o,b≠X.env.locals->b∈X.fs->b ∉ ch->s.heap.get? b=some o->H b=none->∃sl,h'.get? b=some {o with slots:=sl}) (free:∀b o,b ∉ ch->s.heap.get? b=some o->H b=none->H' b=none)
  (there:∀b o,b ∉ ch->s.heap.get? b=some o->∃o',h'.get? b=some o')
  (tups:∀b xs,H b=some (.tup xs)->H' b=some (.tup xs)) (frzs:∀b o u,H b=some (.frz o u)->H' b=some (.frz o u)) (tbls:∀b ps,H b=some (.tbl ps)->∃more,H' b=some (.tbl (ps++more)))
  (ns:∀m,s.heap.Ns X.env.locals m->h'.Ns X.env.locals m) (hok:HOk X.prog X.w H' h') (U:AllBare g'):
  Inv X pins σ H' {s with heap:=h',gens:=g',drawn:=d',toks:=t'}:=by
 have A:∀b o,X.s₀.heap.get? b=some o->b≠X.env.locals:=fun b o e=>yaz (yaj (yao e) I.ok.above)
 have h:∀b o,X.s₀.heap.get? b=some o->b ∉ X.ex->b ∉ ch:=fun b o e a t=>by
  rcases(J b t).1 with z|z
  ·exact a z
  ·exact absurd (yaj (yao e) z) (yaW _)
 have g:∀x c,X.env.cells.lookup x=some c->∀v,s.heap.IsCell c v->h'.IsCell c v:=fun x c e v ⟨o,y,hd⟩=>by
  have f:c ∉ ch:=fun z=>(J c z).2.2.1 x c e rfl
  by_cases F:c∈X.fs
  ·obtain⟨sl,q⟩:=slot c o (I.cne x c e) F f y (I.freeC x c e);exact⟨_,q,hd⟩
  ·exact⟨o,keep c o (I.cne x c e) F f y (I.freeC x c e),hd⟩
 refine⟨I.ok,I.os,U,⟨fun b o e n t a=>?_,fun b o e n t a=>?_,fun b o e n a=>?_,fun b o e a=>?_,fun b xs e=>tups b xs (I.base.tups b xs e),fun b o xs e=>frzs b o xs (I.base.frzs b o xs e),fun b ps e=>?_⟩,?_,fun x c e=>?_,?_,fun x c e=>?_,fun p E=>?_,hok,I.len⟩
 ·exact keep b o (A b o e) t (h b o e a) (I.base.keep b o e n t a) (I.base.free b o e n a)
 ·obtain⟨sl,j⟩:=I.base.slot b o e n t a;obtain⟨C,B⟩:=slot b _ (A b o e) t (h b o e a) j (I.base.free b o e n a);exact⟨C,B⟩
 ·obtain⟨o',j⟩:=I.base.there b o e a;exact free b o' (h b o e a) j (I.base.free b o e n a)
 ·obtain⟨o',j⟩:=I.base.there b o e a;exact there b o' (h b o e a) j
 ·obtain⟨K,j⟩:=I.base.tbls b ps e;obtain⟨G,B⟩:=tbls b _ j;exact⟨K++G,by rw[B,Array.append_assoc]⟩
 ·obtain⟨m,L,M⟩:=I.loc;refine⟨m,ns m L,fun i x v j B N=>?_⟩;obtain⟨u,r,l⟩:=M i x v j B N;refine⟨u,r,?_⟩
  rcases l with l|⟨k,c,e,z⟩
  ·exact .inl l
  ·exact .inr ⟨k,c,e,g x c e _ z⟩
 ·obtain⟨v,z⟩:=I.cell x c e;exact⟨v,g x c e v z⟩
 ·obtain⟨m,⟨o,_,_,y,_⟩,_⟩:=I.loc;exact free _ o (fun z=>(J _ z).2.1 rfl) y I.free
 ·obtain⟨v,o,y,hd⟩:=I.cell x c e;exact free c o (fun z=>(J c z).2.2.1 x c e rfl) y (I.freeC x c e)
 ·obtain⟨e,n,ne,D,d⟩:=I.pin p E;have f:p.1 ∉ ch:=fun z=>(J p.1 z).2.2.2 p E rfl
  exact⟨keep p.1 p.2 ne D f e n,free p.1 p.2 f e n,ne,D,d⟩
def Inv.un(I:Inv X pins σ H s)(u:Un X.fs [] H H' s.heap h')(hok:HOk X.prog X.w H' h'):Inv X pins σ H' {s with heap:=h',toks:=t'}:=by
 obtain⟨m,⟨o,es,ep,g,r⟩,_⟩:=id I.loc;obtain⟨i,h⟩:=u.any g I.free (by simp)
 exact I.step (g':=s.gens) (d':=s.drawn) (ch:=[]) (fun _ z=>nomatch z) (fun b o _ c _ e n=>u.keep b o e n c (by simp)) (fun b o _ c _ e n=>u.slot b o e n c (by simp)) (fun b o _ e n=>u.free b o e n (by simp)) (fun b o _ e=>u.there b o e (by simp)) u.tups u.frzs u.tbls (fun j hm=>by
  obtain⟨o',d,f,a,r'⟩:=hm;rw[g]at a;cases a
  exact⟨_,d,f,h,r'⟩) hok I.bare
def Inv.call(I:Inv X pins σ H s)(u:Un (frs X.stack) ch H H' s.heap h')(hok:HOk X.prog X.w H' h')(U:AllBare g')
  (J:∀b∈ch,(b∈X.ex\/X.s₀.heap.objs.size<=b)/\b≠X.env.locals/\(∀x c,X.env.cells.lookup x=some c->c≠b)/\∀p∈X.pn++pins,p.1≠b):
  Inv X pins σ H' {s with heap:=h',gens:=g',drawn:=d',toks:=t'}:=by
 obtain⟨m,⟨o,es,ep,i,r⟩,_⟩:=id I.loc;obtain⟨k,f⟩:=u.any i I.free fun z=>(J _ z).2.1 rfl
 exact I.step (ch:=ch) J (fun b o f j a e n=>u.keep b o e n (fun z=>(yan.mp (I.stkSub b z)).elim f j) a) (fun b o _ _ a e n=>u.any e n a) (fun b o a e n=>u.free b o e n a) (fun b o a e=>u.there b o e a) u.tups u.frzs u.tbls (fun l hm=>by
  obtain⟨o',g,h,d,r'⟩:=hm;rw[i]at d;cases d
  exact⟨_,g,h,f,r'⟩) hok U
def Inv.turned(I:Inv X pins σ H s)(k:∀b o,b≠it->s.heap.get? b=some o->h'.get? b=some o)(U:H it=none)(J:it≠X.env.locals)
  (h1:it∈X.ex\/X.s₀.heap.objs.size<=it) (h2:∀x c,X.env.cells.lookup x=some c->c≠it) (h3:∀p∈X.pn++pins,p.1≠it):Inv X pins σ H {s with heap:=h',toks:=t'}:=by
 have d:∀b u,H b=some u->b≠it:=fun b u e z=>by rw[z,U]at e;cases e
 refine I.step (g':=s.gens) (d':=s.drawn) (ch:=[it]) (fun b g=>?_) (fun b o _ _ a e _=>k b o (fun z=>a (by simp[z])) e) (fun b o _ _ a e _=>⟨o.slots,k b o (fun z=>a (by simp[z])) e⟩) (fun _ _ _ _ n=>n)
  (fun b o a e=>⟨o,k b o (fun z=>a (by simp[z])) e⟩) (fun _ _ e=>e) (fun _ _ _ e=>e) (fun b ps e=>⟨#[],by rw[e];simp⟩) (fun m hm=>?_) (fun b u e=>?_) I.bare
 ·have e:b=it:=by simpa using g
  subst e;exact⟨h1,J,h2,h3⟩
 ·obtain⟨o,es,ep,f,r⟩:=hm;exact⟨o,es,ep,k _ o (Ne.symm J) f,r⟩
 ·refine(I.hok b u e).stay (fun c v a q=>k c v ?_ q) (fun _ q=>q) fun _ _ q=>q
  rcases a with z|z
  ·rw[z];exact d b u e
  ·exact d c _ z
def Inv.tok(I:Inv X pins σ H s)(t:Nat):Inv X pins σ H {s with toks:=t}:=I.un (h':=s.heap) (t':=t) Un.refl I.hok
theorem Inv.kept(I:Inv X pins σ H s)(k:∀b u,s.heap.get? b=some u->h'.get? b=some u):Inv X pins σ H {s with heap:=h',toks:=t'}:=I.un (Un.kept k) (I.hok.kept k)
theorem Inv.laid(I:Inv X pins σ H s)(k:∀b u,s.heap.get? b=some u->h'.get? b=some u)(J:s.heap.objs.size<=a)(new:zbJ X.prog X.w (upd H a o) h' a o):
  Inv X pins σ (upd H a o) {s with heap:=h',toks:=t'}:=I.un (Un.laid k J (I.hok.fresh J)) (I.hok.laid k J new)
theorem Inv.write(I:Inv X pins σ H s)(mu:Mut (H x))(he:e=x\/H e=some (.own x))(k:∀b u,b≠e->s.heap.get? b=some u->h'.get? b=some u)(J:∃u,h'.get? e=some u)
  (new:zbJ X.prog X.w (upd H x o) h' x o):Inv X pins σ (upd H x o) {s with heap:=h',toks:=t'}:=I.un (Un.write mu he k J) (I.hok.write mu he k J new)
def Inv.pins_of(I:Inv X pins σ H s)(h:∀p∈J,s.heap.get? p.1=some p.2/\H p.1=none/\p.1≠X.env.locals/\p.1 ∉ X.fs/\∀v,p.2.data≠.cell v):Inv X J σ H s:=
 ⟨I.ok,I.os,I.bare,I.base,I.loc,I.cell,I.free,I.freeC,fun p a=>(ybj.mp a).elim (fun z=>I.pin p (ybO _ z)) (h p),I.hok,I.len⟩
def zhB{N:List Str}(I:N.Nodup){i j:Nat}{x:Str}(a:N[i]?=some x)(b:N[j]?=some x):i=j:=by
 obtain⟨h1,d⟩:=yal.mp a;obtain⟨h2,c⟩:=yal.mp b;exact(List.getElem_inj I).mp (d.trans c.symm)
def zh9(I:Inv X pins σ H s)(hN:X.N.Nodup)(hi:X.N[i]?=some x)(J:Loc X.env.scope x)(r:zbu v u)
  (h:∀s',Inv X pins (σ.set i (some v)) H s'->(∃a,Heap.SameBut a s.heap s'.heap/\(a=X.env.locals\/X.env.cells.lookup x=some a))->Q () s') (hf:X.fn x=true\/X.env.scope.names.lookup x=some .local):wpAny M A (storeName X.env x u) Q E s:=by
 obtain⟨m,hn,hl⟩:=id I.loc
 have P:(X.env.scope.kind==.class||(X.env.scope.kind==.module&&X.env.locals != X.env.globals))=false:=by rw[I.ok.kind];rfl
 have D:i<σ.length:=by rw[I.len];exact(yal.mp hi).1
 have cne:=I.cne
 have f:∀{a:Addr}{h':Heap},(∃o,s.heap.get? a=some o/\H a=none)->Heap.SameBut a s.heap h'->HOk X.prog X.w H h':=fun {a h'} ha hs b ob e=>by
  obtain⟨_,_,t⟩:=ha;refine(I.hok b ob e).stay (fun c w' l q=>(hs.2 c ?_).trans q) (fun _ q=>q) fun _ _ q=>q
  rintro rfl
  rcases l with rfl|l
  ·rw[t]at e;cases e
  ·rw[t]at l;cases l
 rcases J with C|C
 ·refine wpAny_storeName_local C hn (fun h' a3 hs=>?_) P;obtain⟨oL,_,_,Z,_⟩:=id hn;refine h _ ⟨I.ok,I.os,I.bare,⟨fun b o e n K J=>?_,fun b o e n K J=>?_,I.base.free,fun b o e J=>?_,I.base.tups,I.base.frzs,I.base.tbls⟩,⟨_,a3,fun j y T g B e3=>?_⟩,fun y c e=>?_,I.free,I.freeC,fun p Y=>?_,f ⟨oL,Z,I.free⟩ hs,by simpa using I.len⟩ ⟨_,hs,.inl rfl⟩
  ·exact(hs.2 b (yaz (yaj (yao e) I.ok.above))).trans (I.base.keep b o e n K J)
  ·obtain⟨V,g⟩:=I.base.slot b o e n K J;exact⟨V,(hs.2 b (yaz (yaj (yao e) I.ok.above))).trans g⟩
  ·obtain⟨o',g⟩:=I.base.there b o e J;exact⟨o',(hs.2 b (yaz (yaj (yao e) I.ok.above))).trans g⟩
  ·by_cases F:j=i
   ·subst F;rw[hi]at g;cases g;rw[yam D]at B;cases B;exact⟨u,r,.inl ⟨C,by simp⟩⟩
   ·rw[yax (Ne.symm F)]at B;obtain⟨U,r',q⟩:=hl j y T g B e3;refine⟨U,r',?_⟩
    rcases q with⟨k,e⟩|⟨k,c,e,z⟩
    ·refine .inl ⟨k,?_⟩;have:y≠x:=fun e=>F (zhB hN g (e ▸ hi))
     simp[this,e]
    ·exact .inr ⟨k,c,e,z.sameBut hs (cne y c e)⟩
  ·obtain⟨w',z⟩:=I.cell y c e;exact⟨w',z.sameBut hs (cne y c e)⟩
  ·obtain⟨e,n,ne,W,d⟩:=I.pin p Y;exact⟨(hs.2 p.1 ne).trans e,n,ne,W,d⟩
 ·have G:X.fn x=true:=by
   rcases hf with z|z
   ·exact z
   ·rw[z]at C;cases C
  obtain⟨c,l⟩:=I.ok.has x (.inl C);obtain⟨w',z⟩:=I.cell x c l;refine wpAny_storeName_cell I.ok.kind C l z (fun h' S hs=>?_);obtain⟨oc,O,L⟩:=id z;refine h {s with heap:=h'} ⟨I.ok,I.os,I.bare,⟨fun b o e n K J=>?_,fun b o e n K J=>?_,I.base.free,fun b o e J=>?_,I.base.tups,I.base.frzs,I.base.tbls⟩,⟨m,hn.sameBut hs (Ne.symm (cne x c l)),fun j y T g B e3=>?_⟩,fun y c' e=>?_,I.free,I.freeC,fun p Y=>?_,f ⟨oc,O,I.freeC x c l⟩ hs,by simpa using I.len⟩ ⟨c,hs,.inr l⟩
  ·exact(hs.2 b (yaz (yaj (yao e) (I.ok.cab x c G l)))).trans (I.base.keep b o e n K J)
  ·obtain⟨V,g⟩:=I.base.slot b o e n K J;exact⟨V,(hs.2 b (yaz (yaj (yao e) (I.ok.cab x c G l)))).trans g⟩
  ·obtain⟨o',g⟩:=I.base.there b o e J;exact⟨o',(hs.2 b (yaz (yaj (yao e) (I.ok.cab x c G l)))).trans g⟩
  ·by_cases F:j=i
   ·subst F;rw[hi]at g;cases g;rw[yam D]at B;cases B;exact⟨u,r,.inr ⟨.inl C,c,l,S⟩⟩
   ·rw[yax (Ne.symm F)]at B;obtain⟨U,r',q⟩:=hl j y T g B e3;refine⟨U,r',?_⟩
    rcases q with q|⟨k,c',e,z'⟩
    ·exact .inl q
    ·refine .inr ⟨k,c',e,z'.sameBut hs ?_⟩;rintro rfl;exact F (zhB hN g (I.ok.inj _ _ _ e l ▸ hi))
  ·by_cases R:c'=c
   ·subst R;exact⟨_,S⟩
   ·obtain⟨w2,z2⟩:=I.cell y c' e;exact⟨w2,z2.sameBut hs R⟩
  ·obtain⟨e,n,ne,W,d⟩:=I.pin p Y;refine⟨(hs.2 p.1 ?_).trans e,n,ne,W,d⟩;intro q;rw[q,O]at e;have q':oc=p.2:=Option.some.inj e;exact d w' (by rw[<-q'];exact L)
def zdb(I:Inv X pins σ H s)(U:X.N.Nodup)(hi:X.N[i]?=some x)(J:Loc X.env.scope x)(r:zbu v u)
  (h:∀s',Inv X pins (σ.set i (some v)) H s'->Q () s') (hf:X.fn x=true\/X.env.scope.names.lookup x=some .local):wpAny M A (storeName X.env x u) Q E s:=
 zh9 I U hi J r (fun s' a _=>h s' a) hf
def Inv.call'(I:Inv X pins σ H s)(ho:s'.os=s.os)(u:Un (frs X.stack) ch H H' s.heap s'.heap)(hok:HOk X.prog X.w H' s'.heap)(U:AllBare s'.gens)
  (J:∀b∈ch,(b∈X.ex\/X.s₀.heap.objs.size<=b)/\b≠X.env.locals/\(∀x c,X.env.cells.lookup x=some c->c≠b)/\∀p∈X.pn++pins,p.1≠b):Inv X pins σ H' s':=by
 obtain⟨h',g',d',t',o'⟩:=s';have e:o'=s.os:=ho;subst e;exact I.call (g':=g') (t':=t') (d':=d') u hok U J
end
noncomputable abbrev XK:=Value->Option Addr->Hp->Prop
noncomputable abbrev St:=List (Option V)
noncomputable abbrev VK:=V->Hp->Prop
noncomputable abbrev TE:=St->Hp->VK->Prop
noncomputable abbrev TT:=St->Hp->(Bool->Hp->Prop)->Prop
noncomputable abbrev TA:=St->Hp->(List V->Hp->Prop)->Prop
structure Ends where
 nx:St->Hp->Prop
 rt:VK
 bk:St->Hp->Prop:=fun _ _=>False
 ct:St->Hp->Prop:=fun _ _=>False
noncomputable abbrev TS:=Ends->St->Hp->Prop
noncomputable def EP(X:Cx)(pins:Z3)(σ:St)(Q:VK)(u:Value)(s':Shared):Prop:=∃v H',Inv X pins σ H' s'/\zbu v u/\Q v H'
noncomputable def TP(X:Cx)(pins:Z3)(σ:St)(Q:Bool->Hp->Prop)(b:Bool)(s':Shared):Prop:=∃H',Inv X pins σ H' s'/\Q b H'
noncomputable def AP(X:Cx)(pins:Z3)(σ:St)(Q:List V->Hp->Prop)(us:List Value)(s':Shared):Prop:=∃vs H',Inv X pins σ H' s'/\Vals vs us/\Q vs H'
noncomputable def SP(X:Cx)(pins:Z3)(D:Ends)(f:Flow)(s':Shared):Prop:=
 match f with
 |.next=>∃a H',Inv X pins a H' s'/\D.nx a H'|.brk=>∃a H',Inv X pins a H' s'/\D.bk a H'|.cont=>∃a H',Inv X pins a H' s'/\D.ct a H'|.ret u=>∃v a H',Inv X pins a H' s'/\zbu v u/\D.rt v H'
noncomputable def PE(X:Cx)(e:Expr)(t:TE):Prop:=
 ∀(pins:Z3) (s:Shared) (σ:St) (H:Hp) (Q:VK),Inv X pins σ H s->t σ H Q->wpAny (model X.prog X.w) X.A (eval e X.env) (EP X pins σ Q) X.xe s
noncomputable def PT(X:Cx)(e:Expr)(t:TT):Prop:=
 ∀(pins:Z3) (s:Shared) (σ:St) (H:Hp) (Q:Bool->Hp->Prop),Inv X pins σ H s->t σ H Q->wpAny (model X.prog X.w) X.A (isTrue e X.env (eval e X.env)) (TP X pins σ Q) X.xe s
noncomputable def PW(X:Cx)(e:Expr)(t:TT):Prop:=
 ∀(whole:Sem Value) (pins:Z3) (s:Shared) (σ:St) (H:Hp) (Q:Bool->Hp->Prop),Inv X pins σ H s->t σ H Q->wpAny (model X.prog X.w) X.A (isTrue e X.env whole) (TP X pins σ Q) X.xe s
def PW.pt(h:PW X e t):PT X e t:=h _
noncomputable def PA(X:Cx)(es:List Expr)(t:TA):Prop:=
 ∀(pos:Pos) (pins:Z3) (s:Shared) (σ:St) (H:Hp) (Q:List V->Hp->Prop),Inv X pins σ H s->t σ H Q->wpAny (model X.prog X.w) X.A (spliced (backTo pos (starEach es X.env))) (AP X pins σ Q) X.xe s
noncomputable def PS(X:Cx)(st:Stmt)(t:TS):Prop:=
 ∀(pins:Z3) (s:Shared) (σ:St) (H:Hp) (D:Ends),Inv X pins σ H s->t D σ H->wpAny (model X.prog X.w) X.A (exec st X.env) (SP X pins D) X.xe s
noncomputable def PSs(X:Cx)(st:List Stmt)(t:TS):Prop:=
 ∀(pins:Z3) (s:Shared) (σ:St) (H:Hp) (D:Ends),Inv X pins σ H s->t D σ H->wpAny (model X.prog X.w) X.A (execs st X.env) (SP X pins D) X.xe s
def thn{α:Type}{t:Sem α}{Q I:α->Shared->Prop}(h:wpAny M A t Q E s)(J:∀a s,Q a s->I a s):wpAny M A t I E s:=ybl h J fun _ _ x=>x
section
variable{X:Cx}
noncomputable def zhX(i:Nat):TE:=fun σ H Q=>∃v,σ[i]?=some (some v)/\Q v H
noncomputable def tC(v:V):TE:=fun _ H Q=>Q v H
def za0{i:Nat}{x:Str}{pos:Pos}(hN:X.N[i]?=some x)(U:Vis X.env.scope x)(hd:autoParam ((x==("__debug__":Str))=false) yAR)(J:autoParam ((x==("__classdict__":Str))=false) yAR):PE X (.Name x pos) (zhX i):=by
 intro pins s σ H Q I h;obtain⟨v,e,h⟩:=h;obtain⟨m,f,g⟩:=I.loc;obtain⟨u,r,l⟩:=g i x v hN e U;have fin:EP X pins σ Q u s:=⟨v,H,I,r,h⟩
 rcases l with⟨b,hm⟩|⟨b,c,d,a⟩
 ·exact wpAny_Name (wpAny_loadName_local I.ok.kind b f hm fin) hd
 ·rcases b with b|b
  ·exact wpAny_Name (wpAny_loadName_cell I.ok.kind b d a fin) hd
  ·exact wpAny_Name (wpAny_loadName_free I.ok.kind b d a fin J) hd
def ztB{i j pos}:PE X (.Constant (.int i) j pos) (tC (.int i)):=fun _ _ _ H _ I h=>wpAny_Constant_int ⟨.int i,H,I.tok _,⟨_,rfl⟩,h⟩
def zqZ{b j pos}:PE X (.Constant (.bool b) j pos) (tC (.bl b)):=fun _ _ _ H _ I h=>Constant_bool ⟨.bl b,H,I,rfl,h⟩
def zmq{j pos}:PE X (.Constant .none j pos) (tC .non):=fun _ _ _ H _ I h=>Constant_none ⟨.non,H,I,rfl,h⟩
def ztw{x j pos}:PE X (.Constant (.str x) j pos) (tC (.str x)):=fun _ _ _ H _ I h=>Calls.Constant_str ⟨.str x,H,I.tok _,⟨_,rfl⟩,h⟩
noncomputable def Gl(X:Cx)(x:Str):Prop:=X.env.kindOf x=some .globalImplicit
def zeo{E:Z5}{pins:Z3}{s:Shared}{σ:St}{H:Hp}{x:Str}{u:Value}{pos:Pos}{Q:Z5}(I:Inv X pins σ H s)(J:Gl X x)(hm:X.mg x=some u)(h:Q u s)
  (hd:autoParam ((x==("__debug__":Str))=false) yAR):wpAny (model X.prog X.w) X.A (eval (.Name x pos) X.env) Q E s:=
 Calls.Name_function_global I.ok.kind J (Calls.loadGlobal_global (by rw[I.ok.glob];exact I.mod.glob.keeps I.bk) hm h) hd
def zfs{E:Z5}{pins:Z3}{s:Shared}{σ:St}{H:Hp}{x:Str}{u:Value}{pos:Pos}{Q:Z5}(I:Inv X pins σ H s)(hg:Gl X x)(hm:X.mg x=none)(J:bootBuiltins x=some u)(h:Q u s)
  (U:autoParam (x ≠ "__name__") yAR) (hd:autoParam ((x==("__debug__":Str))=false) yAR):wpAny (model X.prog X.w) X.A (eval (.Name x pos) X.env) Q E s:=by
 obtain⟨a,h1,h2⟩:=I.mod.blt;exact Calls.Name_function_global I.ok.kind hg (Calls.loadGlobal_builtin (by rw[I.ok.glob];exact I.mod.glob.keeps I.bk) hm (by rw[I.ok.blt];exact h1.keeps I.bk) ((h2 x U).trans J) h) hd
def zms{x:Str}{v:V}{u:Value}{pos:Pos}(J:Gl X x)(hm:X.mg x=some u)(r:zbu v u)(hd:autoParam ((x==("__debug__":Str))=false) yAR):PE X (.Name x pos) (tC v):=
 fun _ _ _ H _ I h=>zeo I J hm ⟨v,H,I,r,h⟩ hd
def zdP{x:Str}{v:V}{u:Value}{pos:Pos}(hg:Gl X x)(hm:X.mg x=none)(J:bootBuiltins x=some u)(r:zbu v u)(U:autoParam (x ≠ "__name__") yAR)(hd:autoParam ((x==("__debug__":Str))=false) yAR):PE X (.Name x pos) (tC v):=
 fun _ _ _ H _ I h=>zfs I hg hm J ⟨v,H,I,r,h⟩ U hd
variable{a b:Expr}{ta tb:TE}{pos:Pos}
noncomputable def tB(t:TE):TT:=fun σ H Q=>t σ H fun x H1=>∃c,x=.bl c/\Q c H1
def zf5{e:Expr}{t:TE}(h:PE X e t)(he:autoParam (∀whole,isTrue e X.env whole=(do let v ← whole;standAt e.pos;holding [v] (truthy v))) yAU):PT X e (tB t):=by
 intro pins s σ H Q I b;refine isTrue_plain (thn (h pins s σ H _ I b) fun v s1 ⟨x,H1,c,r1,a⟩=>?_) (he _);obtain⟨d,rfl,q⟩:=a;cases r1;exact ybg ⟨H1,c,q⟩
variable{tA tB':TT}{zcd:List Expr}
noncomputable def zxt(t u:TT):TT:=fun σ H Q=>t σ H fun c H1=>if c=true then u σ H1 Q else Q false H1
noncomputable def tOr(t u:TT):TT:=fun σ H Q=>t σ H fun c H1=>if c=true then Q true H1 else u σ H1 Q
noncomputable def zxr(t:TT):TT:=fun σ H Q=>t σ H fun c H1=>Q (!c) H1
def zqN(J:PT X a tA):PW X (.BoolOp .And [a] pos) tA:=by
 intro b pins s σ H Q I h;refine isTrue_and (thn (J pins s σ H Q I h) fun c s1 e=>?_)
 cases c with
 |true=>exact isTrue_and_nil e|false=>exact e
def ztg(J:PT X a tA):PW X (.BoolOp .Or [a] pos) tA:=by
 intro b pins s σ H Q I h;refine isTrue_or (thn (J pins s σ H Q I h) fun c s1 e=>?_)
 cases c with
 |false=>exact isTrue_or_nil e|true=>exact e
def zth(U:PT X a tA)(J:PW X (.BoolOp .And (b::zcd) pos) tB'):PW X (.BoolOp .And (a::b::zcd) pos) (zxt tA tB'):=by
 intro f pins s σ H Q I h;refine isTrue_and (thn (U pins s σ H _ I h) fun c s1 ⟨H1,e,d⟩=>?_)
 cases c with
 |true=>exact J f pins s1 σ H1 Q e d|false=>exact⟨H1,e,d⟩
def zvK(U:PT X a tA)(J:PW X (.BoolOp .Or (b::zcd) pos) tB'):PW X (.BoolOp .Or (a::b::zcd) pos) (tOr tA tB'):=by
 intro f pins s σ H Q I h;refine isTrue_or (thn (U pins s σ H _ I h) fun c s1 ⟨H1,e,d⟩=>?_)
 cases c with
 |true=>exact⟨H1,e,d⟩|false=>exact J f pins s1 σ H1 Q e d
def ztj(J:PT X a tA):PT X (.UnaryOp .Not a pos) (zxr tA):=by
 intro pins s σ H Q I h;exact isTrue_not (J pins s σ H (fun c H1=>Q (!c) H1) I h)
noncomputable def zvx(ta tb:TE):TE:=fun σ H Q=>ta σ H fun x H1=>∃c,x=.bl c/\if c=true then tb σ H1 Q else Q (.bl false) H1
noncomputable def zza(ta tb:TE):TE:=fun σ H Q=>ta σ H fun x H1=>∃c,x=.bl c/\if c=true then Q (.bl true) H1 else tb σ H1 Q
noncomputable def zvr(ta:TE):TE:=fun σ H Q=>ta σ H fun x H1=>∃c,x=.bl c/\Q (.bl (!c)) H1
def zty{op}(h:PE X a t):PE X (.BoolOp op [a] pos) t:=fun pins s σ H Q I b=>BoolOp_one (h pins s σ H Q I b)
def ztC(U:PE X a ta)(J:PE X (.BoolOp .And (b::zcd) pos) tb):PE X (.BoolOp .And (a::b::zcd) pos) (zvx ta tb):=by
 intro pins s σ H Q I h;refine BoolOp_and (thn (U pins s σ H _ I h) fun v s1 ⟨x,H1,e,r1,d⟩=>?_);obtain⟨c,rfl,d⟩:=d;cases r1;refine ybg ?_
 cases c with
 |true=>exact J pins s1 σ H1 Q e d|false=>exact⟨.bl false,H1,e,rfl,d⟩
def zvP(U:PE X a ta)(J:PE X (.BoolOp .Or (b::zcd) pos) tb):PE X (.BoolOp .Or (a::b::zcd) pos) (zza ta tb):=by
 intro pins s σ H Q I h;refine BoolOp_or (thn (U pins s σ H _ I h) fun v s1 ⟨x,H1,e,r1,d⟩=>?_);obtain⟨c,rfl,d⟩:=d;cases r1;refine ybg ?_
 cases c with
 |false=>exact J pins s1 σ H1 Q e d|true=>exact⟨.bl true,H1,e,rfl,d⟩
def ztz(J:PE X a ta):PE X (.UnaryOp .Not a pos) (zvr ta):=by
 intro pins s σ H Q I h;refine UnaryOp_ (thn (J pins s σ H _ I h) fun v s1 ⟨x,H1,d,r1,b⟩=>?_);obtain⟨c,rfl,b⟩:=b;cases r1;exact not_of (ybg ⟨.bl (!c),H1,d,rfl,b⟩)
noncomputable def tIf(t:TT)(ta tb:TE):TE:=fun σ H Q=>t σ H fun c H1=>if c=true then ta σ H1 Q else tb σ H1 Q
def zoq(J:PT X c tA)(ha:PE X a ta)(U:PE X b tb):PE X (.IfExp c a b pos) (tIf tA ta tb):=by
 intro pins s σ H Q I h;refine wpAny_IfExp (thn (J pins s σ H _ I h) fun d s1 ⟨H1,f,e⟩=>?_)
 cases d with
 |true=>exact ha pins s1 σ H1 Q f e|false=>exact U pins s1 σ H1 Q f e
end
noncomputable def SqL(K:PySem.W.Frag)(H:Hp)(a:Addr)(xs:List V):Prop:=
 Rd H a (.lst xs) ∨
  ∃(o:Obj) (b:Array Value) (n:Nat),K.lookup a=some o/\o.cls=.type "list" /\ o.dict=none/\o.data=.seq b n/\b.size<=sizeLine/\Vals xs b.toList
noncomputable def SqT(K:PySem.W.Frag)(H:Hp)(a:Addr)(xs:List V):Prop:=
 Rd H a (.tup xs) ∨
  ∃(o:Obj) (b:Array Value) (n:Nat),K.lookup a=some o/\o.cls=.type "tuple" /\ o.data=.seq b n/\b.size<=sizeLine/\Vals xs b.toList
noncomputable def zAo:Value->Option V
 |.none=>some .non|.bool b=>some (.bl b)|.int i _=>some (.int i)|.str x _=>some (.str x)|.bytes b _=>some (.byt b)|.float b _=>some (.flt b)|.ref a=>some (.ref a)|.type n=>some (.ty n)|_=>none
def zbu.abs(r:zbu x u):zAo u=some x:=by
 cases x with
 |non=>cases r;rfl|bl _=>cases r;rfl|int _=>obtain⟨t,rfl⟩:=r;rfl|str _=>obtain⟨t,rfl⟩:=r;rfl|byt _=>obtain⟨t,rfl⟩:=r;rfl|flt _=>obtain⟨t,rfl⟩:=r;rfl|ref _=>cases r;rfl|ty _=>cases r;rfl
theorem zbu.inj(r:zbu x u)(q:zbu y u):x=y:=Option.some.inj (r.abs.symm.trans q.abs)
theorem Vals.inj:∀{xs ys:List V}{us:List Value},Vals xs us->Vals ys us->xs=ys
 |_,_,_,.nil,.nil=>rfl|_,_,_,.cons r t,.cons r' t'=>by rw[r.inj r',Vals.inj t t']
section
variable{X:Cx}{pins:Z3}{σ:St}{H:Hp}{s:Shared}{a:Addr}{xs ys:List V}
def SqL.of{K:PySem.W.Frag}(h:H a=some (.lst xs)):SqL K H a xs:=.inl (.inl h)
def SqT.of{K:PySem.W.Frag}(h:H a=some (.tup xs)):SqT K H a xs:=.inl (.inl h)
theorem Inv.list(I:Inv X pins σ H s)(h:SqL X.K H a xs):∃J:List Value,Vals xs J/\PlainL s.heap a J.toArray/\xs.length<=sizeLine:=by
 rcases h with h|⟨o,J,n,b,c,hd,hs,d,r⟩
 ·obtain⟨z,J,n,r,e⟩:=h.ok I.hok;exact⟨J,r,⟨_,n,e,rfl,rfl,rfl⟩,z⟩
 ·refine⟨J.toList,r,⟨o,n,I.kIn a o b,c,hd,by simpa using hs⟩,?_⟩;have e:=r.length;simp only[ya7]at e;omega
def Inv.tuple(I:Inv X pins σ H s)(h:SqT X.K H a xs):∃J:List Value,Vals xs J/\IsTup s.heap a J.toArray/\xs.length<=sizeLine:=by
 rcases h with h|⟨o,J,n,b,c,hs,d,r⟩
 ·obtain⟨z,J,r,p⟩:=h.ok I.hok;exact⟨J,r,p,z⟩
 ·refine⟨J.toList,r,⟨o,I.kIn a o b,c,n,by simpa using hs⟩,?_⟩;have e:=r.length;simp only[ya7]at e;omega
def Inv.list_inj(I:Inv X pins σ H s)(h:SqL X.K H a xs)(h':SqL X.K H a ys):xs=ys:=by
 obtain⟨b,r,⟨o,n,e,_,_,d⟩,_⟩:=I.list h;obtain⟨ai,r',⟨o',f,c,_,_,d'⟩,_⟩:=I.list h';rw[e]at c;cases c;rw[d]at d'
 injection d' with d1 _
 have:b=ai:=by simpa using congrArg Array.toList d1
 subst this;exact r.inj r'
def Inv.tuple_inj(I:Inv X pins σ H s)(h:SqT X.K H a xs)(h':SqT X.K H a ys):xs=ys:=by
 obtain⟨b,r,⟨o,e,_,n,d⟩,_⟩:=I.tuple h;obtain⟨ai,r',⟨o',c,_,f,d'⟩,_⟩:=I.tuple h';rw[e]at c;cases c;rw[d]at d'
 injection d' with d1 _
 have:b=ai:=by simpa using congrArg Array.toList d1
 subst this;exact r.inj r'
end
section
variable{X:Cx}{st:Stmt}{zcd:List Stmt}{t u:TS}{e:Expr}{te:TE}{pos:Pos}
noncomputable def zvs:TS:=fun D σ H=>D.nx σ H
noncomputable def zvq(t u:TS):TS:=fun D σ H=>t {D with nx:=u D} σ H
def zen:PSs X [] zvs:=fun _ _ σ H _ I h=>ycw ⟨σ,H,I,h⟩
def zb7(h1:PS X st t)(h2:PSs X zcd u):PSs X (st::zcd) (zvq t u):=by
 intro pins s σ H D I h;refine wpAny_execs_cons (thn (h1 pins s σ H {D with nx:=u D} I h) fun f s1 q=>?_)
 cases f with
 |next=>
  obtain⟨a,H',b,q⟩:=q;exact h2 pins s1 a H' D b q
 |ret v=>exact q|brk=>exact q|cont=>exact q
def zdN(h1:PS X st t):PSs X [st] t:=by
 intro pins s σ H D I h;refine wpAny_execs_cons (thn (h1 pins s σ H D I h) fun f s1 q=>?_)
 cases f with
 |next=>exact ycw q|ret v=>exact q|brk=>exact q|cont=>exact q
noncomputable def zst:TS:=fun D σ H=>D.bk σ H
def zof:PS X (.Break pos) zst:=fun _ _ σ H _ I h=>wpAny_Break ⟨σ,H,I,h⟩
def Inv.quiet(I:Inv X pins σ H s):interactive X.env=false:=by simp[interactive,I.ok.kind]
noncomputable def zlH(te:TE):TS:=fun D σ H=>te σ H fun _ H1=>D.nx σ H1
def zcU(he:PE X e te)(hs:autoParam (swapsWith e none pos.line X.env=pure false) yAW):PS X (.Expr e pos) (zlH te):=by
 intro pins s σ H D I h;exact wpAny_Expr_any (thn (he pins s σ H _ I h) fun v s1 ⟨x,H1,b,r1,a⟩=>⟨σ,H1,b,a⟩) I.quiet hs
noncomputable def zy9(te:TE):TS:=fun D σ H=>te σ H D.rt
def zgX(he:PE X e te):PS X (.Return (some e) pos) (zy9 te):=by
 intro pins s σ H D I h;exact wpAny_Return_some (thn (he pins s σ H _ I h) fun v s1 ⟨x,H1,b,r1,a⟩=>⟨x,σ,H1,b,r1,a⟩)
noncomputable def zzc(c:TT)(t u:TS):TS:=fun D σ H=>c σ H fun b H1=>if b=true then t D σ H1 else u D σ H1
def zjg(J:PT X c tc)(ha:PSs X a t)(U:PSs X b u):PS X (.If c a b pos) (zzc tc t u):=by
 intro pins s σ H D I h;refine wpAny_If (thn (J pins s σ H _ I h) fun d s1 ⟨H1,f,e⟩=>?_)
 cases d with
 |true=>exact ha pins s1 σ H1 D f e|false=>exact U pins s1 σ H1 D f e
noncomputable def zsp:TS:=fun _ _ _=>False
def zir{sts:List Stmt}:PSs X sts zsp:=fun _ _ _ _ _ _ h=>h.elim
end
noncomputable abbrev TG:=V->St->Hp->(St->Hp->Prop)->Prop
noncomputable abbrev TGs:=List V->St->Hp->(St->Hp->Prop)->Prop
noncomputable def PG(X:Cx)(target:Expr)(t:TG):Prop:=
 ∀(pins:Z3) (s:Shared) (σ:St) (H:Hp) (v:V) (u:Value) (Q:St->Hp->Prop),Inv X pins σ H s->zbu v u->t v σ H Q →
  wpAny (model X.prog X.w) X.A (assign target X.env u) (fun _ s'=>∃a H',Inv X pins a H' s'/\Q a H') X.xe s
noncomputable def PGs(X:Cx)(ts:List Expr)(t:TGs):Prop:=
 ∀(pins:Z3) (s:Shared) (σ:St) (H:Hp) (vs:List V) (us:List Value) (Q:St->Hp->Prop),Inv X pins σ H s->Vals vs us->t vs σ H Q →
  wpAny (model X.prog X.w) X.A (assignInOrder ((assignEach ts X.env).map (·.2)) us) (fun _ s'=>∃a H',Inv X pins a H' s'/\Q a H') X.xe s
noncomputable abbrev TSet:=V->V->V->Hp->(Hp->Prop)->Prop
noncomputable def zwJ(X:Cx)(t:TSet):Prop:=
 ∀(pins:Z3) (s:Shared) (σ:St) (H:Hp) (o i v:V) (ov a u:Value) (Q:Hp->Prop),Inv X pins σ H s->zbu o ov->zbu i a->zbu v u->t o i v H Q →
  wpAny (model X.prog X.w) X.A (setItem ov a u) (fun _ s'=>∃H',Inv X pins σ H' s'/\Q H') X.xe s
noncomputable abbrev TIp:=V->V->Hp->VK->Prop
noncomputable def PIp(X:Cx)(op:Operator)(t:TIp):Prop:=
 ∀(pins:Z3) (s:Shared) (σ:St) (H:Hp) (x y:V) (v u:Value) (Q:VK),Inv X pins σ H s->zbu x v->zbu y u->t x y H Q →
  wpAny (model X.prog X.w) X.A (inplaceOp op v u) (EP X pins σ Q) X.xe s
section
variable{X:Cx}{pos:Pos}
noncomputable def zgn(i:Nat):TG:=fun v σ H Q=>Q (σ.set i (some v)) H
def zhw(U:X.N.Nodup)(hi:X.N[i]?=some x)(J:Loc X.env.scope x)(hf:X.fn x=true\/X.env.scope.names.lookup x=some .local):PG X (.Name x pos) (zgn i):=by
 intro pins s σ H v u Q I r h;exact wpAny_assign_Name (zdb I U hi J r (fun s' a=>⟨_,H,a,h⟩) hf)
noncomputable def zAc:TGs:=fun vs σ H Q=>vs=[]/\Q σ H
noncomputable def zwi(t:TG)(u:TGs):TGs:=fun vs σ H Q=>∃v r,vs=v::r/\t v σ H fun a H'=>u r a H' Q
def zqV:PGs X [] zAc:=by
 intro pins s σ H vs us Q I r h;obtain⟨e,h⟩:=h;subst e;cases r;exact assignInOrder_nil ⟨σ,H,I,h⟩
def zol{e:Expr}{es:List Expr}{t:TG}{u:TGs}(h1:PG X e t)(h2:PGs X es u)
  (hs:autoParam ((assignEach (e::es) X.env).map (·.2)=assign e X.env::(assignEach es X.env).map (·.2)) yAW):PGs X (e::es) (zwi t u):=by
 intro pins s σ H vs us Q I r h;obtain⟨v,g,d,h⟩:=h;subst d
 cases r with
 |cons r b=>
  rw[hs];refine ydc (thn (h1 pins s σ H _ _ _ I r h) fun _ s1 ⟨a,H1,f,c⟩=>?_);exact h2 pins s1 a H1 _ _ Q f b c
noncomputable def zAa(K:PySem.W.Frag)(n:Nat)(t:TGs):TG:=fun v σ H Q=>∃a xs,v=.ref a/\SqT K H a xs/\xs.length=n/\t xs σ H Q
def ztu{es:List Expr}{k:Nat}{t:TGs}{n:Nat}(hc:X.calm=true)(h:PGs X es t)
  (U:autoParam ((assignEach es X.env).length=n) yAW) (J:autoParam ((assignEach es X.env).findIdx? (·.1)=none) yAW):PG X (.Tuple es k pos) (zAa X.K n t):=by
 intro pins s σ H v u Q I r c;obtain⟨a,xs,l,i,j,c⟩:=c;subst l;cases r;obtain⟨f,d,ht,p⟩:=I.tuple i;refine assign_Tuple_tuple (I.ok.hd hc) ht (by simp[U,<-j,d.length]) J fun h' g=>?_
 have m:Inv X pins σ H {s with heap:=h'}:=I.kept (t':=s.toks) fun b o e=>g b o (yaz (yao e)) e
 exact h pins _ σ H xs _ Q m (by simpa using d) c
noncomputable def zAb(to ti:TE)(t:TSet):TG:=fun v σ H Q=>to σ H fun o H1=>ti σ H1 fun i H2=>t o i v H2 fun a=>Q σ a
def zpw{o i:Expr}{to ti:TE}{t:TSet}(ho:PE X o to)(hi:PE X i ti)(hs:zwJ X t)
  (U:autoParam (∀v,assign (.Subscript o i pos) X.env v=(do
   let ov ← holding [v] (eval o X.env)
   let J ← holding [v,ov] (eval i X.env)
   standAt pos
   holding [v,ov,J] (setItem ov J v)
   release [v,ov,J] [])) yAU):PG X (.Subscript o i pos) (zAb to ti t):=by
 intro pins s σ H v u Q I r h;rw[U];refine yaa (ybv (thn (ho pins s σ H _ I h) fun ov s1 ⟨x,H1,g,r1,d⟩=>?_));refine yaa (ybv (thn (hi pins s1 σ H1 _ g d) fun J s2 ⟨y,H2,f,a,c⟩=>?_));refine yaa (ydn (yaa (ybv (thn (hs pins s2 σ H2 x y v ov J u _ f r1 a r c) fun _ k ⟨j,e,b⟩=>?_))));exact wpAny_release ⟨σ,j,e,b⟩
noncomputable def zpn(te:TE)(g:TG):TS:=fun D σ H=>te σ H fun x H1=>g x σ H1 D.nx
def zmi{tg e:Expr}{te:TE}{g:TG}(he:PE X e te)(J:PG X tg g)(hs:autoParam (swapsWithSole [tg] e pos.line X.env=pure false) yAW)(hw:autoParam (swappedStores [tg] e X.env=pure none) yAW)
  (h1:autoParam ((assignEach [tg] X.env).map (·.2)=[assign tg X.env]) yAW):PS X (.Assign [tg] e pos) (zpn te g):=by
 intro pins s σ H D I h;refine wpAny_Assign_stores (thn (he pins s σ H _ I h) fun v s1 ⟨x,H1,b,r1,a⟩=>?_) hs hw;rw[h1];exact thn (J pins s1 σ H1 x v _ b r1 a) fun _ s2 q=>q
def zis{i:Nat}{x:Str}{e:Expr}{te:TE}{pos':Pos}(U:X.N.Nodup)(hi:X.N[i]?=some x)(J:Loc X.env.scope x)(he:PE X e te)(hs:autoParam (swapsWith e (some (.Name x pos')) pos.line X.env=pure false) yAW)(hf:X.fn x=true\/X.env.scope.names.lookup x=some .local):
  PS X (.Assign [.Name x pos'] e pos) (zpn te (zgn i)):=by
 intro pins s σ H D I h;refine wpAny_Assign_Name (thn (he pins s σ H _ I h) fun v s1 ⟨y,H1,c,r1,a⟩=>?_) hs;exact zdb c U hi J r1 (fun s2 b=>⟨_,H1,b,a⟩) hf
noncomputable def zxq(i j:Nat)(ta:TA):TS:=fun D σ H=>ta σ H fun vs H1=>∃v w,vs=[v,w]/\D.nx ((σ.set i (some v)).set j (some w)) H1
def ztk{i j:Nat}{x y:Str}{a b:Expr}{ta:TA}{px py pt:Pos}{kt k2 J}(hc:X.calm=true)(hN:X.N.Nodup)(hi:X.N[i]?=some x)(hj:X.N[j]?=some y)(U:i≠j)
  (hx:X.env.scope.names.lookup x=some .local) (hy:X.env.scope.names.lookup y=some .local) (ha:PA X [a,b] ta)
  (hw:swappedStores [.Tuple [.Name x px,.Name y py] kt pt] (.Tuple [a,b] k2 J) X.env=pure (some [x,y]))
  (hs:autoParam (swapsWithSole [.Tuple [.Name x px,.Name y py] kt pt] (.Tuple [a,b] k2 J) pos.line X.env=pure false) yAW):
  PS X (.Assign [.Tuple [.Name x px,.Name y py] kt pt] (.Tuple [a,b] k2 J) pos) (zxq i j ta):=by
 intro pins s σ H D I h;rw[exec_Assign_arm];refine yaa (ydn ?_);rw[hs];refine yaa (yae ?_);rw[if_neg (by decide)];refine yaa (Tuple_ (thn (ha _ pins s σ H _ I h) fun us s1 ⟨vs,H1,C,r1,g⟩=>?_));obtain⟨v,w,t,g⟩:=g;subst t
 obtain⟨d,c,rfl,m,f⟩:∃d c,us=[d,c]/\zbu v d/\zbu w c:=by
  cases r1 with
  |cons p q=>
   cases q with
   |cons r n=>
    cases n;exact⟨_,_,rfl,p,r⟩
 refine yaU ?_ (by show 2<=sizeLine;decide);have B:Inv X pins σ H1 {s1 with heap:=s1.heap.push {cls:=.type "tuple",data:=.seq [d,c].toArray}}:=C.kept (t':=s1.toks) fun b o e=>yac _ e
 rw[hw];refine yaa (yae ?_);show wpAny (model X.prog X.w) X.A (do rule "assign.swapped-stores";let items ← unpackItems (.ref s1.heap.objs.size) 2 none;assignInOrder [fun v=>bindName X.env y v,fun v=>bindName X.env x v] items.reverse;pure Flow.next) _ _ _;refine yaa (ydi (yaa (unpackItems_tuple (items:=#[d,c]) (I.ok.hd hc) (IsTup.new s1.heap _) fun h' k=>?_)));have z:=B.kept (h':=h') (t':=s1.toks) fun b o e=>k b o (yaz (yao e)) e
 show wpAny _ _ (assignInOrder [fun v=>bindName X.env y v,fun v=>bindName X.env x v] [c,d] >>= fun _=>pure Flow.next) _ _ _;refine yaa (ydc (wpAny_bindName (zdb z hN hj (.inl hy) f (fun s2 u=>?_) (.inr hy))));refine ydc (wpAny_bindName (zdb u hN hi (.inl hx) m (fun E l=>assignInOrder_nil (yae ?_)) (.inr hx)));rw[List.set_comm _ _ (Ne.symm U)]at l;exact⟨_,H1,l,g⟩
noncomputable def zzf(i:Nat)(te:TE)(ti:TIp):TS:=fun D σ H=>∃x,σ[i]?=some (some x)/\te σ H fun y H1=>ti x y H1 fun z H2=>D.nx (σ.set i (some z)) H2
def ztl{i:Nat}{x:Str}{e:Expr}{te:TE}{op:Operator}{ti:TIp}{pos':Pos}(U:X.N.Nodup)(hi:X.N[i]?=some x)(J:Loc X.env.scope x)(he:PE X e te)(ho:PIp X op ti)(hf:X.fn x=true\/X.env.scope.names.lookup x=some .local:=by first|exact .inl rfl|exact .inr rfl|assumption):
  PS X (.AugAssign (.Name x pos') op e pos) (zzf i te ti):=by
 intro pins s σ H D I h;obtain⟨v,t,h⟩:=h;obtain⟨m,o,p⟩:=I.loc
 have vis:Vis X.env.scope x:=by rcases J with k|k;exact .inl k;exact .inr (.inl k)
 obtain⟨u,r,l⟩:=p i x v hi t vis;refine wpAny_AugAssign_Name ?_
 have go:wpAny (model X.prog X.w) X.A (eval e X.env) (fun w f=>wpAny (model X.prog X.w) X.A (inplaceOp op u w) (fun r d=>wpAny (model X.prog X.w) X.A (storeName X.env x r) (fun _=>SP X pins D .next) X.xe d) X.xe f) X.xe s:=by
  refine thn (he pins s σ H _ I h) fun w s1 ⟨y,H1,E,r1,n⟩=>?_
  refine thn (ho pins s1 σ H1 v y u w _ E r r1 n) fun z s2 ⟨F,H2,C,g,j⟩=>?_
  exact zdb C U hi J g (fun G B=>⟨_,H2,B,j⟩) hf
 rcases l with⟨a,hm⟩|⟨a,c,q,b⟩
 ·exact wpAny_loadName_local I.ok.kind a o hm go
 ·rcases a with a|a
  ·exact wpAny_loadName_cell I.ok.kind a q b go
  ·rcases J with k|k
   ·have:X.env.scope.names.lookup x=some .free:=a;rw[k]at this;cases this
   ·have:X.env.scope.names.lookup x=some .free:=a;rw[k]at this;cases this
end
section
variable{X:Cx}{pos:Pos}
noncomputable def zsl(c:TT)(tb:TS):TS:=fun D σ H=>∃W:Nat->St->Hp->Prop,(∃m,W m σ H)/\∀m σ H,W m σ H →
 c σ H fun b H1=>if b=true then ∃N:St->Hp->Prop,(∀a H',N a H'->∃d,d<m/\W d a H')/\tb {D with nx:=N,ct:=N,bk:=D.nx} σ H1 else D.nx σ H1
def zod(J:PassesOwn (model X.prog X.w) X.A X.env X.xe)(U:PT X c tc)(hb:PSs X body tb):PS X (.While c body [] pos) (zsl tc tb):=by
 intro pins s σ H D I h;obtain⟨W,⟨m0,u⟩,g⟩:=h;refine wpAny_While (codeAny_whileLoop (fun n s'=>∃e H',Inv X pins e H' s'/\W n e H') ?_ m0 ⟨σ,H,I,u⟩);rintro n s1 ⟨d,H1,x,t⟩;refine ybP J (thn (U pins s1 d H1 _ x (g n d H1 t)) fun b s2 ⟨H2,r,k⟩=>?_)
 cases b with
 |true=>
  obtain⟨N,q,k⟩:=k;rw[if_pos rfl];refine ybP J (thn (hb pins s2 d H2 _ r k) fun f y j=>?_)
  cases f with
  |next=>
   obtain⟨a,i,p,m⟩:=j;obtain⟨o,hm,l⟩:=q a i m;exact⟨o,hm,a,i,p,l⟩
  |cont=>
   obtain⟨a,i,p,m⟩:=j;obtain⟨o,hm,l⟩:=q a i m;exact⟨o,hm,a,i,p,l⟩
  |brk=>exact j|ret v=>exact j
 |false=>
  rw[if_neg yaS];exact ycw ⟨d,H2,r,k⟩
end
structure It where
 go:Nat->Hp->Prop
 yld:Nat->Hp->V->Hp->Prop
 stop:Nat->Hp->Prop
noncomputable def znD(X:Cx)(pins:Z3)(H:Hp)(b:Addr):Prop:=
 H b=none/\b≠X.env.locals/\b ∉ X.fs/\(b∈X.ex\/X.s₀.heap.objs.size<=b)/\(∀x c,X.env.cells.lookup x=some c->c≠b)/\∀p∈X.pn++pins,p.1≠b
def Inv.fpOk(I:Inv X pins σ H s)(J:s.heap.objs.size<=b)(U:H' b=none):znD X pins H' b:=by
 refine⟨U,yaQ (yaj I.lt J),I.nofs J,.inr (yak I.sz J),fun x c e z=>?_,fun p a z=>?_⟩
 ·obtain⟨v,q⟩:=I.cell x c e;exact absurd (yaj q.lt (by rw[z];exact J)) (yaW _)
 ·exact absurd (yaj (yao (I.pin p a).1) (by rw[z];exact J)) (yaW _)
structure Turn(P:Program)(w:World)(K:PySem.W.Frag)(tg:Expr)(J:It)(fp:List Addr)(it:Addr)(tn:Nat->Heap->Prop):Prop where
 mem:it∈fp
 obj:∀i h,tn i h->∀b∈fp,∃o,h.get? b=some o/\∀v,o.data≠.cell v
 keep:∀i h h',tn i h->(∀b∈fp,∀o,h.get? b=some o->h'.get? b=some o)->tn i h'
 item:∀(X:Cx),X.prog=P->X.w=w->X.K=K->X.calm=true->∀(i:Nat) (pins:Z3) (s:Shared) (σ:St) (H:Hp) (E:Z5),Inv X pins σ H s->(∀b∈fp,znD X pins H b)->tn i s.heap->J.go i H →
  wpAny (model P w) X.A (pyNext (.ref it)) (fun r s1=>∃u,r=some u ∧
   wpAny (model P w) X.A (letOwnedTupleGo tg (.ref it) u) (fun _ s2=>∃x H',Inv X pins σ H' s2/\zbu x u/\J.yld i H x H'/\tn (i+1) s2.heap/\∀b∈fp,H' b=none) E s1) E s
 done:∀(X:Cx),X.prog=P->X.w=w->X.K=K->X.calm=true->∀(i:Nat) (pins:Z3) (s:Shared) (σ:St) (H:Hp) (E:Z5),Inv X pins σ H s->(∀b∈fp,znD X pins H b)->tn i s.heap->J.stop i H →
  wpAny (model P w) X.A (pyNext (.ref it)) (fun r s1=>r=none/\Inv X pins σ H s1) E s
 self:∀(A:Around) (i:Nat) (s:Shared) (Q:Z5) (E:Z5),tn i s.heap->Q (.ref it) s->wpAny (model P w) A (pyIter (.ref it)) Q E s
noncomputable abbrev TI:=St->Hp->(It->Hp->Prop)->Prop
noncomputable def PIE(X:Cx)(pins:Z3)(σ:St)(tg:Expr)(R:It->Hp->Prop)(I:Value)(s2:Shared):Prop:=
 ∃(it:Addr) (fp:List Addr) (a:Nat->Heap->Prop) (J:It) (H':Hp),I=.ref it/\Inv X pins σ H' s2/\Turn X.prog X.w X.K tg J fp it a/\a 0 s2.heap/\(∀b∈fp,znD X pins H' b)/\R J H'
noncomputable def PI(X:Cx)(tg iter:Expr)(wi:TI):Prop:=
 ∀(pins:Z3) (s:Shared) (σ:St) (H:Hp) (R:It->Hp->Prop),Inv X pins σ H s->wi σ H R →
  wpAny (model X.prog X.w) X.A (eval iter X.env) (fun v s1=>wpAny (model X.prog X.w) X.A (pyIter v) (PIE X pins σ tg R) X.xe s1) X.xe s
def zrA (ho : s.heap.get? it=some o) (U : o.cls=.type n) (hd : o.data=.fields vs)
    (J : ["enumerate", "zip", "dict_itemiterator", "dict_reverseitemiterator", "odict_iterator", "itertools.zip_longest", "itertools.pairwise"].contains n=false) (I : Q () s): wpAny M A (letOwnedTupleGo tg (.ref it) u) Q E s:= by
  unfold letOwnedTupleGo
  cases tg <;> first
    |exact yae I
    | (cases u <;> first
        |exact yae I
        | (refine yaa (wpAny_load ho ?_)
           rw[U, hd];show wpAny M A (if(["enumerate", "zip", "dict_itemiterator", "dict_reverseitemiterator", "odict_iterator", "itertools.zip_longest", "itertools.pairwise"].contains n && vs[0]?==some (rawInt _))=true then _ else _) Q E s;rw[if_neg (by intro h; rw[J, Bool.false_and]at h; cases h)]
           exact yae I))
noncomputable def Itl(K:PySem.W.Frag)(a:Addr):It:=
 ⟨fun i H=>∃xs x,SqL K H a xs/\xs[i]?=some x,fun i H x H'=>H'=H/\∀xs,SqL K H a xs->xs[i]?=some x,fun i H=>∃xs,SqL K H a xs/\xs.length<=i⟩
noncomputable def Itt(K:PySem.W.Frag)(a:Addr):It:=
 ⟨fun i H=>∃xs x,SqT K H a xs/\xs[i]?=some x,fun i H x H'=>H'=H/\∀xs,SqT K H a xs->xs[i]?=some x,fun i H=>∃xs,SqT K H a xs/\xs.length<=i⟩
noncomputable def Itr(lo:Int)(n:Nat):It:=⟨fun i _=>i<n,fun i H x H'=>H'=H/\x=.int (lo+i),fun i _=>n<=i⟩
theorem zlw{P:Program}{K:PySem.W.Frag}(a it:Addr):Turn P w K tg (Itl K a) [it] it (fun i h=>h.IsListIter it a i)where
 mem:=by simp
 obj:=fun i h st b f=>by
  have e:b=it:=by simpa using f
  subst e;obtain⟨o,e,c,d⟩:=st;exact⟨o,e,fun v z=>by rw[d]at z;cases z⟩
 keep:=fun i h h' st k=>st.at fun o e=>k it (by simp) o e
 item:=by
  intro X t q y F i pins s σ H E I hf st r;subst t q y;obtain⟨xs,x,j,n⟩:=r;obtain⟨m,l,p,L⟩:=I.list j;obtain⟨u,N,J⟩:=l.get n;obtain⟨D,f1,f2,C,B,A⟩:=hf it (by simp);refine wpAny_pyNext_list_item st p.isList (x:=u) (by simpa using N) fun h' g G=>?_
  have Q:Inv X pins σ H {s with heap:=h'}:=I.turned (t':=s.toks) (fun b o f e=>(G.2 b f).trans e) D f1 C B A;obtain⟨o,e,c,d⟩:=id g;exact⟨u,rfl,zrA (s:={s with heap:=h'}) e c d (by decide) ⟨x,H,Q,J,⟨rfl,fun ys M=>by rw[I.list_inj M j];exact n⟩,g,fun b f=>(hf b f).1⟩⟩
 done:=by
  intro X t q y F i pins s σ H E I hf st r;subst t q y;obtain⟨xs,j,n⟩:=r;obtain⟨m,l,p,L⟩:=I.list j;obtain⟨D,f1,f2,C,B,A⟩:=hf it (by simp);have R:=l.length;exact wpAny_pyNext_list_end (I.ok.hd F) st p.isList (by simp;omega) fun h' O=>⟨rfl,I.turned (t':=s.toks) (fun b o f e=>O b o f e) D f1 C B A⟩
 self:=fun _ _ _ _ _ st h=>wpAny_pyIter_listiter st h
def zkE{P:Program}{K:PySem.W.Frag}(a it:Addr):Turn P w K tg (Itt K a) [it] it (fun i h=>h.IsTupleIter it a i)where
 mem:=by simp
 obj:=fun i h st b g=>by
  have e:b=it:=by simpa using g
  subst e;obtain⟨o,e,c,d⟩:=st;exact⟨o,e,fun v z=>by rw[d]at z;cases z⟩
 keep:=fun i h h' st k=>st.at fun o e=>k it (by simp) o e
 item:=by
  intro X t q y F i pins s σ H E I hf st r;subst t q y;obtain⟨xs,x,l,n⟩:=r;obtain⟨f,m,p,L⟩:=I.tuple l;obtain⟨u,N,J⟩:=m.get n;obtain⟨D,f1,f2,C,B,A⟩:=hf it (by simp);refine wpAny_pyNext_tuple_item st (show s.heap.IsTuple a f.toArray from p) (x:=u) (by simpa using N) fun h' j G=>?_
  have Q:Inv X pins σ H {s with heap:=h'}:=I.turned (t':=s.toks) (fun b o g e=>(G.2 b g).trans e) D f1 C B A;obtain⟨o,e,c,d⟩:=id j;exact⟨u,rfl,zrA (s:={s with heap:=h'}) e c d (by decide) ⟨x,H,Q,J,⟨rfl,fun ys M=>by rw[I.tuple_inj M l];exact n⟩,j,fun b g=>(hf b g).1⟩⟩
 done:=by
  intro X t q y F i pins s σ H E I hf st r;subst t q y;obtain⟨xs,l,n⟩:=r;obtain⟨f,m,p,L⟩:=I.tuple l;obtain⟨D,f1,f2,C,B,A⟩:=hf it (by simp);have R:=m.length;exact wpAny_pyNext_tuple_end (I.ok.hd F) st (show s.heap.IsTuple a f.toArray from p) (by simp;omega) fun h' O=>⟨rfl,I.turned (t':=s.toks) (fun b o g e=>O b o g e) D f1 C B A⟩
 self:=fun _ _ _ _ _ st h=>wpAny_pyIter_tupleiter st h
theorem zkF{P:Program}{K:PySem.W.Frag}(it:Addr)(lo:Int)(n:Nat):Turn P w K tg (Itr lo n) [it] it (fun i h=>IsRangeIter h it (lo+(i:Nat)*1) ((n:Int)-(i:Nat)) 1)where
 mem:=by simp
 obj:=fun i h st b a=>by
  have e:b=it:=by simpa using a
  subst e
  exact⟨_,st,fun v z=>by
   have u:Data.fields _=Data.cell v:=z
   cases u⟩
 keep:=fun i h h' st k=>k it (by simp) _ st
 item:=by
  intro X j d l g i pins s σ H E I hf st f;subst j d l;obtain⟨r,f1,f2,q,p,m⟩:=hf it (by simp);have W:=Walks.range (prog:=X.prog) (w:=X.w) (I.ok.hd g) it lo 1 n;refine W.item i s _ _ f st fun v h' tk x c kk=>?_
  obtain⟨t,rfl⟩:=x;have A:Inv X pins σ H {s with heap:=h',toks:=tk}:=I.turned (fun b o a e=>kk b o (by simpa using a) e) r f1 q p m;refine⟨_,rfl,zrA (s:={s with heap:=h',toks:=tk}) (n:="range_iterator") c rfl rfl (by decide) ⟨.int (lo+i),H,A,⟨t,?_⟩,⟨rfl,rfl⟩,c,fun b a=>(hf b a).1⟩⟩;rw[Int.mul_one]
 done:=by
  intro X j d l g i pins s σ H E I hf st f;subst j d l;obtain⟨r,f1,f2,q,p,m⟩:=hf it (by simp);exact wpAny_pyNext_range_end (I.ok.hd g) st (by have:n<=i:=f;omega) fun h' y=>⟨rfl,I.turned (t':=s.toks) (fun b o a e=>y b o a e) r f1 q p m⟩
 self:=fun _ _ _ _ _ st h=>wpAny_pyIter_rangeiter st h
section
variable{X:Cx}{tg:Expr}
noncomputable def zwh(K:PySem.W.Frag)(tl:TE):TI:=fun σ H R=>tl σ H fun x H1=>∃a,x=.ref a/\(∃xs,SqL K H1 a xs)/\R (Itl K a) H1
noncomputable def zz7(K:PySem.W.Frag)(tl:TE):TI:=fun σ H R=>tl σ H fun x H1=>∃a,x=.ref a/\(∃xs,SqT K H1 a xs)/\R (Itt K a) H1
def zhv(J:PE X l tl):PI X tg l (zwh X.K tl):=by
 intro pins s σ H R I h;refine thn (J pins s σ H _ I h) fun v s1 ⟨x,H1,c,r1,d⟩=>?_
 obtain⟨a,e,⟨xs,g⟩,q⟩:=d;subst e;cases r1;obtain⟨f,j,p,k⟩:=c.list g;refine ycN p.isList ?_;refine⟨s1.heap.objs.size,[s1.heap.objs.size],_,_,H1,rfl,c.kept (t':=s1.toks) fun b o e=>yac _ e,zlw a _,⟨_,yaq _ rfl,rfl,rfl⟩,fun b i=>?_,q⟩
 have e:b=s1.heap.objs.size:=by simpa using i
 subst e;exact c.fpOk (yag _) (c.hok.fresh (yag _))
def zmo(J:PE X l tl):PI X tg l (zz7 X.K tl):=by
 intro pins s σ H R I h;refine thn (J pins s σ H _ I h) fun v s1 ⟨x,H1,c,r1,f⟩=>?_
 obtain⟨a,e,⟨xs,g⟩,q⟩:=f;subst e;cases r1;obtain⟨d,j,p,k⟩:=c.tuple g;refine ycx (show s1.heap.IsTuple a d.toArray from p) ?_;refine⟨s1.heap.objs.size,[s1.heap.objs.size],_,_,H1,rfl,c.kept (t':=s1.toks) fun b o e=>yac _ e,zkE a _,⟨_,yaq _ rfl,rfl,rfl⟩,fun b i=>?_,q⟩
 have e:b=s1.heap.objs.size:=by simpa using i
 subst e;exact c.fpOk (yag _) (c.hok.fresh (yag _))
theorem zn9{pins:Z3}{σ:St}{H:Hp}{s:Shared}{R:It->Hp->Prop}{E:Z5}{lo hi:Int}{t u v:Tok}{tk:Nat}(I:Inv X pins σ H s)(h1:-(2 ^ 62)<=lo)(h2:lo<2 ^ 62)(J:-(2 ^ 62)<=hi)(h4:hi<2 ^ 62)
  (q:R (Itr lo (hi-lo).toNat) H):wpAny (model X.prog X.w) X.A (pyIter (.ref s.heap.objs.size)) (PIE X pins σ tg R) E {s with heap:=s.heap.push {cls:=.type "range",data:=.fields #[.int lo t,.int hi u,.int 1 v]},toks:=tk}:=by
 refine wpAny_pyIter_range (IsRange.new ..) (small_one h1 h2 J h4) ?_;have a:Inv X pins σ H {s with heap:=s.heap.push {cls:=.type "range",data:=.fields #[.int lo t,.int hi u,.int 1 v]},toks:=tk}:=I.kept fun b o e=>yac _ e
 refine⟨(s.heap.push {cls:=.type "range",data:=.fields #[.int lo t,.int hi u,.int 1 v]}).objs.size,[(s.heap.push {cls:=.type "range",data:=.fields #[.int lo t,.int hi u,.int 1 v]}).objs.size],_,_,H,rfl,
  a.kept (t':=tk) fun b o e=>yac _ e,zkF _ lo (hi-lo).toNat,?_,fun b c=>?_,q⟩
 ·have f:lo+((0:Nat):Int)*1=lo:=by simp
  have d:(((hi-lo).toNat:Nat):Int)-((0:Nat):Int)=Builtin.Range.rangeSize lo hi 1:=by rw[rangeSize_one];split<;>omega
  show IsRangeIter _ _ (lo+((0:Nat):Int)*1) ((((hi-lo).toNat:Nat):Int)-((0:Nat):Int)) 1;rw[f,d];exact yaq _ rfl
 ·have e:b=(s.heap.push {cls:=.type "range",data:=.fields #[.int lo t,.int hi u,.int 1 v]}).objs.size:=by simpa using c
  subst e;exact a.fpOk (yag _) (a.hok.fresh (yag _))
noncomputable def zwg(ta:TA):TI:=fun σ H R=>ta σ H fun vs H1=>∃j:Int,vs=[.int j]/\-(2 ^ 62)<=j/\j<2 ^ 62/\R (Itr 0 j.toNat) H1
theorem zmp{a:Expr}{ta:TA}{p pos:Pos}(J:Gl X "range")(hm:X.mg "range"=none)(U:PA X [a] ta)(hs:autoParam (starEach [a] X.env=[(false,eval a X.env)]) yAW):PI X tg (.Call (.Name "range" p) [a] [] pos) (zwg ta):=by
 intro pins s σ H R I h;refine Call_ (zfs I J hm boot_range (ya8 (thn (U pos pins s σ H _ I h) fun us s1 ⟨vs,H1,f,r1,b⟩=>?_) hs rfl));obtain⟨j,e,b,d,q⟩:=b;subst e
 cases r1 with
 |cons r c=>
  cases c;obtain⟨t,rfl⟩:=r;exact call_range_1 (zn9 f (by omega) (by omega) b d (by simpa using q))
noncomputable def zzd(wi:TI)(g:TG)(tb:TS):TS:=fun D σ H=>wi σ H fun J H1=>∃W:Nat->Nat->St->Hp->Prop,(∃m,W 0 m σ H1)/\∀i m σ H,W i m σ H →
 (J.stop i H/\D.nx σ H)\/(J.go i H/\∃N:St->Hp->Prop,(∀a H',N a H'->∃c,c<m/\W (i+1) c a H')/\∀x H',J.yld i H x H'->g x σ H' fun b H2=>tb {D with nx:=N,ct:=N,bk:=D.nx} b H2)
noncomputable def ziw(fp:List Addr)(h:Heap):List (Addr×Obj):=fp.filterMap fun b=>(h.get? b).map fun o=>(b,o)
def zd7(I:b∈fp)(e:h.get? b=some o):(b,o)∈ziw fp h:=ycy.mpr ⟨b,I,by rw[e];rfl⟩
def zmE(I:p∈ziw fp h):p.1∈fp/\h.get? p.1=some p.2:=by
 obtain⟨b,a,e⟩:=ycy.mp I
 cases q:h.get? b with
 |none=>rw[q]at e;cases e|some o=>
  rw[q]at e;have c:(b,o)=p:=Option.some.inj e;subst c;exact⟨a,q⟩
def Inv.pinned(I:Inv X pins σ H s)(hf:∀b∈fp,znD X pins H b)(ho:∀b∈fp,∃o,s.heap.get? b=some o/\∀v,o.data≠.cell v):Inv X (pins++ziw fp s.heap) σ H s:=
 I.pins_of fun p f=>(ybj.mp f).elim (fun z=>I.pin p (yaJ _ z)) fun z=>by
  obtain⟨a,e⟩:=zmE z;obtain⟨g,f1,f2,_⟩:=hf p.1 a;obtain⟨o,c,d⟩:=ho p.1 a;rw[e]at c;cases c;exact⟨e,g,f1,f2,d⟩
def Inv.unpinned(I:Inv X (pins++pl) σ H s):Inv X pins σ H s:=I.pins_of fun p a=>I.pin p (yaJ _ (ybO _ a))
def zpt{iter:Expr}{body:List Stmt}{wi:TI}{g:TG}{tb:TS}{pos:Pos}(hp:PassesOwn (model X.prog X.w) X.A X.env X.xe)(hc:X.calm=true)(hi:PI X tg iter wi)(hg:PG X tg g)(U:PSs X body tb)
  (hs:autoParam (∀x,foldedSetIterable iter X.env x=pure x) yAU):PS X (.For tg iter body [] pos) (zzd wi g tb):=by
 intro pins s σ H D I h;refine wpAny_For (thn (hi pins s σ H _ I h) fun v s1 h1=>thn h1 fun a3 s2 h2=>?_) hs;obtain⟨it,fp,P,J,H2,e,I2,T,G,f2,W,⟨m0,w0⟩,y⟩:=h2;subst e;have k:∀{H':Hp},(∀b∈fp,H' b=none)->∀b∈fp,znD X pins H' b:=fun hn b U=>⟨hn b U,(f2 b U).2⟩
 refine codeAny_forLoop_any (fun n s'=>∃i j H',Inv X pins j H' s'/\P i s'.heap/\(∀b∈fp,H' b=none)/\W i n j H') ?_ m0 ⟨0,σ,H2,I2,G,fun b U=>(f2 b U).1,w0⟩;rintro n R ⟨i,c,E,S,z,C,w3⟩
 rcases y i n c E w3 with⟨stop,qn⟩|⟨go,N,hN,step⟩
 ·refine ybP hp (thn (T.done X rfl rfl rfl hc i pins R c E X.xe S (k C) z stop) fun r s4 ⟨L,I4⟩=>?_);subst L;exact ycw ⟨c,E,I4,qn⟩
 ·refine ybP hp (thn (T.item X rfl rfl rfl hc i pins R c E X.xe S (k C) z go) fun r s4 ⟨u,L,h4⟩=>?_);subst L;refine ybP hp (thn h4 fun _ Q ⟨x,V,I5,r5,Y,t,M⟩=>?_);have O:=I5.pinned (k M) (T.obj _ _ t);refine ybP hp (thn (hg _ Q c V x u _ O r5 (step x V Y)) fun _ s6 ⟨F,H6,I6,q6⟩=>?_);refine ybP hp (thn (U _ s6 F H6 _ I6 q6) fun f K q=>?_)
  have again:∀{a:St}{p:Hp},Inv X (pins++ziw fp Q.heap) a p K->N a p->∃m,m<n/\∃i j H',Inv X pins j H' K/\P i K.heap/\(∀b∈fp,H' b=none)/\W i m j H':=fun {a p} l B=>by
   obtain⟨m',hm,Z⟩:=hN a p B;refine⟨m',hm,i+1,a,p,l.unpinned,T.keep _ _ _ t fun b U o e=>(l.pin (b,o) (yaJ _ (yaJ _ (zd7 U e)))).1,fun b U=>?_,Z⟩;obtain⟨o,e,d⟩:=T.obj _ _ t b U;exact(l.pin (b,o) (yaJ _ (yaJ _ (zd7 U e)))).2.1
  cases f with
  |next=>obtain⟨a,p,l,B⟩:=q;exact again l B|cont=>obtain⟨a,p,l,B⟩:=q;exact again l B|brk=>obtain⟨a,p,l,q⟩:=q;exact⟨a,p,l.unpinned,q⟩|ret v=>obtain⟨x7,a,p,l,r7,q⟩:=q;exact⟨x7,a,p,l.unpinned,r7,q⟩
end
noncomputable abbrev R2:=V->V->Hp->VK->Prop
noncomputable def OpR(X:Cx)(f:Value->Value->Sem Value)(r:R2):Prop:=
 ∀(pins:Z3) (s:Shared) (σ:St) (H:Hp) (x y:V) (v u:Value) (Q:VK),Inv X pins σ H s->zbu x v->zbu y u->r x y H Q →
  wpAny (model X.prog X.w) X.A (f v u) (EP X pins σ Q) X.xe s
noncomputable def UnR(X:Cx)(f:Value->Sem Value)(r:V->Hp->VK->Prop):Prop:=
 ∀(pins:Z3) (s:Shared) (σ:St) (H:Hp) (x:V) (v:Value) (Q:VK),Inv X pins σ H s->zbu x v->r x H Q →
  wpAny (model X.prog X.w) X.A (f v) (EP X pins σ Q) X.xe s
noncomputable def zeC(X:Cx)(f:Value)(r:List V->Hp->VK->Prop):Prop:=
 ∀(pins:Z3) (s:Shared) (σ:St) (H:Hp) (xs:List V) (us:List Value) (Q:VK),Inv X pins σ H s->Vals xs us->r xs H Q →
  wpAny (model X.prog X.w) X.A (call f us) (EP X pins σ Q) X.xe s
noncomputable def tOp(r:R2)(ta tb:TE):TE:=fun σ H Q=>ta σ H fun x H1=>tb σ H1 fun y H2=>r x y H2 Q
noncomputable def tUn(r:V->Hp->VK->Prop)(ta:TE):TE:=fun σ H Q=>ta σ H fun x H1=>r x H1 Q
noncomputable def rI(C:Int->Int->Prop)(g:Int->Int->V):R2:=fun x y H Q=>∃i j,x=.int i/\y=.int j/\C i j/\Q (g i j) H
noncomputable def rI0(g:Int->Int->V):R2:=fun x y H Q=>∃i j,x=.int i/\y=.int j/\Q (g i j) H
noncomputable def rU(g:Int->V):V->Hp->VK->Prop:=fun x H Q=>∃i,x=.int i/\Q (g i) H
section
variable{X:Cx}{a b c:Expr}{ta tb tc:TE}{pos:Pos}
def zwB(ha:PE X a ta)(hb:PE X b tb){pins:Z3}{s:Shared}{σ:St}{H:Hp}{R:V->V->Hp->Prop}(I:Inv X pins σ H s)
  (h:ta σ H fun x H1=>tb σ H1 fun y H2=>R x y H2) {Q:Z5}{f:Value->Value->Sem Value}
  (hf:∀v u s2 x y H2,Inv X pins σ H2 s2->zbu x v->zbu y u->R x y H2->wpAny (model X.prog X.w) X.A (f v u) Q X.xe s2):
  wpAny (model X.prog X.w) X.A (eval a X.env) (fun v U=>wpAny (model X.prog X.w) X.A (eval b X.env) (fun u J=>wpAny (model X.prog X.w) X.A (f v u) Q X.xe J) X.xe U) X.xe s:=by
 refine thn (ha pins s σ H _ I h) fun v s1 ⟨x,H1,i,r1,e⟩=>?_
 refine thn (hb pins s1 σ H1 _ i e) fun u s2 ⟨y,H2,g,c,d⟩=>?_
 exact hf v u s2 x y H2 g r1 c d
def zvQ(ho:OpR X (binaryOp op) r)(U:PE X a ta)(J:PE X b tb):PE X (.BinOp a op b pos) (tOp r ta tb):=by
 intro pins s σ H Q I h;exact wpAny_BinOp (zwB U J I h fun v u s2 x y H2 e d c q=>ho pins s2 σ H2 x y v u Q e d c q)
def zvO(ho:UnR X (unaryOp op) r)(J:PE X a ta):PE X (.UnaryOp op a pos) (tUn r ta):=by
 intro pins s σ H Q I h;exact UnaryOp_ (thn (J pins s σ H _ I h) fun v s1 ⟨x,H1,c,r1,b⟩=>ho pins s1 σ H1 x v Q c r1 b)
def opI{f:Value->Value->Sem Value}{C:Int->Int->Prop}{g:Int->Int->Int}
  (rule:∀(i j:Int) (t u:Tok) (s:Shared) (Q:Z5) (E:Z5),C i j->Q (.int (g i j) s.toks) {s with toks:=s.toks+1}->wpAny (model X.prog X.w) X.A (f (.int i t) (.int j u)) Q E s):
  OpR X f (rI C fun i j=>.int (g i j)):=by
 intro pins s σ H x y v u Q I b a h;obtain⟨i,j,rfl,rfl,c,q⟩:=h;obtain⟨t,rfl⟩:=b;obtain⟨t',rfl⟩:=a;exact rule i j t t' s _ _ c ⟨.int (g i j),H,I.tok _,⟨_,rfl⟩,q⟩
def zxz{f:Value->Value->Sem Value}{g:Int->Int->Int}
  (rule:∀(i j:Int) (t u:Tok) (s:Shared) (Q:Z5) (E:Z5),Q (.int (g i j) s.toks) {s with toks:=s.toks+1}->wpAny (model X.prog X.w) X.A (f (.int i t) (.int j u)) Q E s):
  OpR X f (rI0 fun i j=>.int (g i j)):=by
 intro pins s σ H x y v u Q I b a h;obtain⟨i,j,rfl,rfl,q⟩:=h;obtain⟨t,rfl⟩:=b;obtain⟨t',rfl⟩:=a;exact rule i j t t' s _ _ ⟨.int (g i j),H,I.tok _,⟨_,rfl⟩,q⟩
def zu2{f:Value->Value->Sem Value}{g:Int->Int->Bool}
  (rule:∀(i j:Int) (t u:Tok) (s:Shared) (Q:Z5) (E:Z5),Q (.bool (g i j)) s->wpAny (model X.prog X.w) X.A (f (.int i t) (.int j u)) Q E s):
  OpR X f (rI0 fun i j=>.bl (g i j)):=by
 intro pins s σ H x y v u Q I b a h;obtain⟨i,j,rfl,rfl,q⟩:=h;obtain⟨t,rfl⟩:=b;obtain⟨t',rfl⟩:=a;exact rule i j t t' s _ _ ⟨.bl (g i j),H,I,rfl,q⟩
noncomputable def zAr(i j:Int):Prop:=0<j/\j<1073741824
noncomputable def zwK(i j:Int):Prop:=(-(2 ^ 64)<i/\i<2 ^ 64)\/(-(2 ^ 64)<j/\j<2 ^ 64)
def zwK.ok(h:zwK i j):IntMulOk i j:=by
 rcases h with⟨h1,h2⟩|⟨h1,h2⟩
 ·exact .of_left (intBits_le_64 h1 h2)
 ·exact .of_right (intBits_le_64 h1 h2)
def ztM:OpR X (binaryOp .Add) (rI0 fun i j=>.int (i+j)):=zxz fun _ _ _ _ _ _ _ q=>add_int q
def ztG:OpR X (binaryOp .Sub) (rI0 fun i j=>.int (i-j)):=zxz fun _ _ _ _ _ _ _ q=>sub_int q
def ztI:OpR X (binaryOp .Mult) (rI zwK fun i j=>.int (i*j)):=opI fun _ _ _ _ _ _ _ a q=>mul_int q a.ok
theorem zra:OpR X (binaryOp .FloorDiv) (rI zAr fun i j=>.int (i / j)):=opI fun i j _ _ _ _ _ a q=>by
 have h1:(0:Int)<j:=a.1;have h2:j<1073741824:=a.2;exact floordiv_int (by omega) (by rw[Int.fdiv_eq_ediv_of_nonneg i (by omega)];exact q) (.inl (PyProof.noPylong_small (by omega)))
theorem ztJ:OpR X (binaryOp .Mod) (rI (fun _ j=>0<j) fun i j=>.int (i % j)):=opI fun i j _ _ _ _ _ a q=>by
 have h1:(0:Int)<j:=a;exact mod_int' (by omega) (by rw[Int.fmod_eq_emod_of_nonneg i (by omega)];exact q)
def unI{f:Value->Sem Value}{g:Int->Int}
  (rule:∀(i:Int) (t:Tok) (s:Shared) (Q:Z5) (E:Z5),Q (.int (g i) s.toks) {s with toks:=s.toks+1}->wpAny (model X.prog X.w) X.A (f (.int i t)) Q E s):
  UnR X f (rU fun i=>.int (g i)):=by
 intro pins s σ H x v Q I a h;obtain⟨i,rfl,q⟩:=h;obtain⟨t,rfl⟩:=a;exact rule i t s _ _ ⟨.int (g i),H,I.tok _,⟨_,rfl⟩,q⟩
def zsg:UnR X (unaryOp .USub) (rU fun i=>.int (-i)):=unI fun _ _ _ _ _ q=>neg_int q
end
section
variable{X:Cx}{a b c:Expr}{ta tb tc:TE}{pos:Pos}
def zpP(I:Inv X pins σ H s)(q:Q (.bl k) H)(e:k=k'):EP X pins σ Q (.bool k') s:=by
 subst e;exact⟨.bl k,H,I,rfl,q⟩
def zvR:OpR X (compareOp .Lt) (rI0 fun i j=>.bl (decide (i<j))):=zu2 fun _ _ _ _ _ _ _ q=>lt_int q
def zvS:OpR X (compareOp .LtE) (rI0 fun i j=>.bl (decide (i<=j))):=zu2 fun _ _ _ _ _ _ _ q=>le_int q
def zvT:OpR X (compareOp .Gt) (rI0 fun i j=>.bl (decide (j<i))):=zu2 fun _ _ _ _ _ _ _ q=>gt_int q
def zvU:OpR X (compareOp .GtE) (rI0 fun i j=>.bl (decide (j<=i))):=zu2 fun _ _ _ _ _ _ _ q=>ge_int q
def ztK:OpR X (compareOp .Is) (fun x y H Q=>y=.non/\Q (.bl (decide (x=.non))) H):=by
 intro pins s σ H x y v u Q I a b h;obtain⟨rfl,q⟩:=h;cases b;refine is_none_gen (zpP I q ?_)
 cases x<;>first
  |(cases a;rfl)
  |(obtain⟨t,rfl⟩:=a;rfl)
def zq9:OpR X (compareOp .IsNot) (fun x y H Q=>y=.non/\Q (.bl (!decide (x=.non))) H):=by
 intro pins s σ H x y v u Q I a b h;obtain⟨rfl,q⟩:=h;cases b;refine isnot_none_gen (zpP I q ?_)
 cases x<;>first
  |(cases a;rfl)
  |(obtain⟨t,rfl⟩:=a;rfl)
def zjh(ho:OpR X (compareOp op) r)(U:PE X a ta)(J:PE X b tb)(hm:behindInMarks op b=false):PE X (.Compare a [op] [b] pos) (tOp r ta tb):=by
 intro pins s σ H Q I h;exact wpAny_Compare1 (zwB U J I h fun v u s2 x y H2 e d c q=>ho pins s2 σ H2 x y v u Q e d c q) hm
noncomputable def zqg(t:TE):TT:=fun σ H Q=>t σ H fun x H'=>∃k,x=.bl k/\Q k H'
def zjf(ho:OpR X (compareOp op) r)(U:PE X a ta)(J:PE X b tb)(hm:behindInMarks op b=false):PT X (.Compare a [op] [b] pos) (zqg (tOp r ta tb)):=by
 intro pins s σ H Q I h
 refine wpAny_isTrue_Compare1 (thn (U pins s σ H _ I h) fun v s1 ⟨x,H1,n,r1,j⟩=>thn (J pins s1 σ H1 _ n j) fun u s2 ⟨y,H2,m,f,i⟩=>
  thn (ho pins s2 σ H2 x y v u _ m r1 f i) fun c p ⟨z,o,l,d,k,e,g⟩=>?_) hm
 subst e;cases d;exact ybg ⟨o,l,g⟩
noncomputable def zlI(r r':R2)(ta tb tc:TE):TE:=fun σ H Q=>ta σ H fun x H1=>tb σ H1 fun y H2=>r x y H2 fun z a=>∃k,z=.bl k ∧
 (if k=true then tc σ a fun w' b=>r' y w' b Q else Q (.bl false) a)
def zos{op J:CmpOp}{r r':R2}(ho:OpR X (compareOp op) r)(U:OpR X (compareOp J) r')(ha:PE X a ta)(hb:PE X b tb)(hc:PE X c tc)
  (hm:autoParam (lastMarks [op,J] [b,c]=false) yAO):PE X (.Compare a [op,J] [b,c] pos) (zlI r r' ta tb tc):=by
 intro pins s σ H Q I h
 refine Compare_chain (thn (ha pins s σ H _ I h) fun v s1 ⟨x,H1,C,r1,w⟩=>chain_link (thn (hb pins s1 σ H1 _ C w) fun u s2 ⟨y,H2,B,f,t⟩=>
  thn (ho pins s2 σ H2 x y v u _ B r1 f t) fun d n ⟨z,j,i,p,k,e,g⟩=>?_)) hm
 subst e;cases p;refine ybg ?_
 cases k with
 |false=>exact ite_ff ⟨.bl false,j,i,rfl,g⟩|true=>exact ite_tt (chain_last (thn (hc pins n σ j _ i g) fun w' m ⟨l,D,A,o,q⟩=>U pins m σ D y l u w' Q A f o q))
def zoc{op J:CmpOp}{r r':R2}(ho:OpR X (compareOp op) r)(U:OpR X (compareOp J) r')(ha:PE X a ta)(hb:PE X b tb)(hc:PE X c tc)
  (hm:autoParam (lastMarks [op,J] [b,c]=false) yAO):PT X (.Compare a [op,J] [b,c] pos) (zqg (zlI r r' ta tb tc)):=by
 intro pins s σ H Q I h
 refine isTrue_chain (thn (ha pins s σ H _ I h) fun v s1 ⟨x,H1,L,r1,B⟩=>test_link (thn (hb pins s1 σ H1 _ L B) fun u s2 ⟨y,H2,K,f,A⟩=>
  thn (ho pins s2 σ H2 x y v u _ K r1 f A) fun d n ⟨z,j,i,q,k,e,g⟩=>?_)) hm
 subst e;cases q;refine ybg ?_
 cases k with
 |false=>
  obtain⟨k',E,C⟩:=g;cases E;exact ite_ff ⟨j,i,C⟩
 |true=>
  refine ite_tt (test_last (thn (hc pins n σ j _ i g) fun w' m ⟨l,N,G,p,w⟩=>thn (U pins m σ N y l u w' _ G f p w) fun d' P ⟨O,M,F,o,k2,D,t⟩=>?_));subst D;cases o;exact ybg ⟨M,F,t⟩
def zkd:(sizeLine:Nat)<2 ^ 63:=by rw[ybM];decide
def zkV:OpR X (binaryOp .Add) (fun x y H Q=>∃i j,x=.str i/\y=.str j/\i.length+j.length<=sizeLine/\Q (.str (i++j)) H):=by
 intro pins s σ H x y v u Q I b a h;obtain⟨i,j,rfl,rfl,c,q⟩:=h;obtain⟨t,rfl⟩:=b;obtain⟨t',rfl⟩:=a;exact add_str (fun t' tk=>⟨.str (i++j),H,I.tok _,⟨_,rfl⟩,q⟩) c
def zh2(r:Vals [x] us):∃u,us=[u]/\zbu x u:=by
 cases r with
 |cons r1 a=>cases a;exact⟨_,rfl,r1⟩
end
structure ObjM(h:Heap)(x dx C:Addr)(mA:Z6):Prop where
 obj:h.get? x=some (PySem.W.instObj C dx)
 ns:h.Ns1 dx mA
 ne:dx≠x
def zmN{h:Heap}{mA:Z6}(n:h.Ns1 dx mA):∃I,h.get? dx=some I/\∀name,PySem.W.lookIn name I=some (mA name):=by
 obtain⟨o,es,ep,d,hd,f,_,hm⟩:=n;refine⟨o,d,fun name=>?_⟩;have e:=hm name;unfold nsFind findBy at e;rw[<-Array.find?_toList]at e;unfold PySem.W.lookIn;rw[hd];dsimp only;split
 ·rename_i y q;rw[q]at e;exact congrArg some e
 ·rename_i q;rw[q]at e
  have a:es.toList.any (·.refKey)=false:=by
   rw[List.any_eq_false];intro y c;obtain⟨z,t,b⟩:=f y (Array.mem_toList_iff.mp c);simp[DictEntry.refKey,b]
  have g:¬ es.toList.any (·.refKey)=true:=by rw[a];exact yaS
  rw[if_neg g];exact congrArg some e
def ObjM.look(I:ObjM h x dx C mA):∃J,PySem.W.InstAt h x (PySem.W.instObj C dx) C (some J)/\∀name,PySem.W.lookIn name J=some (mA name):=
 let ⟨J,a,b⟩:=zmN I.ns
 ⟨J,⟨I.obj,rfl,rfl,a⟩,b⟩
section
variable{prog:Program}{w:World}{A:Around}{E:Z5}{s:Shared}{K:PySem.W.Frag}{x dx C f:Addr}{mA:Z6}{name:Str}{v:Value}
def zrB{expr:Bool}{Q:Z5}(X:K.In s.heap)(I:ObjM s.heap x dx C mA)(hg:PySem.W.plainGet K C name=true)(hh:PySem.W.hasDictIn K C=true)
  (ha:PySem.W.findIn K (.ref C) name=some none) (hv:mA name=some v) (U:PySem.W.handedIn v=true) (h:Q v {s with toks:=s.toks+1}):
  wpAny (model prog w) A (getAttr (.ref x) name expr) Q E s:=by
 obtain⟨b,J,a⟩:=I.look;exact PySem.W.get_value X J (yc6 hg).1 (PySem.W.findObj_own hh ha rfl (by rw[a,hv])) U h
def zoV(X:K.In s.heap)(I:ObjM s.heap x dx C mA)(U:PySem.W.plainGet K C name=true)
  (hf:PySem.W.findIn K (.ref C) name=some (some (.ref f))) (ht:PySem.W.isFn K (.ref f)=true) (hv:mA name=none) (h:Q (.ref f,[.ref x]) s):
  wpAny (model prog w) A (getMethod (.ref x) name pl) Q E s:=by
 obtain⟨a,J,b⟩:=I.look;exact PySem.W.method_fn X J (yc6 U).1 (yc6 U).2 hf (yce.mp ht) (by show(PySem.W.lookIn name a).map (·.isSome)=some false;rw[b,hv];rfl) h
theorem zqy{ns:List Str}{Q:Unit->Shared->Prop}(X:K.In s.heap)(I:ObjM s.heap x dx C mA)
  (hs:PySem.W.findIn K (.ref C) "__setattr__"=some (some (.builtin "object.__setattr__"))) (U:PySem.W.plainOver K C=true) (ht:PySem.W.takerIn K C name=some none) (hh:PySem.W.hasDictIn K C=true)
  (hw:PySem.Within mA ns) (hsz:ns.length<=sizeLine)
  (h:∀h',ObjM h' x dx C (fun y=>if y=name then some v else mA y)->Heap.SameBut dx s.heap h'->Q () {s with heap:=h',toks:=s.toks+2}):
  wpAny (model prog w) A (setAttr (.ref x) name v) Q E s:=by
 obtain⟨n,J,o⟩:=I.look;refine PySem.W.set_plain X J hs (PySem.W.osa_open (s:={s with toks:=s.toks+1}) (r:=none) X J U ht fun b=>?_);obtain⟨cd,k,g⟩:=PySem.W.any_some hh;have j:s.heap.get? x=some ⟨.ref C,some dx,.plain,#[]⟩:=I.obj;refine yaa (yae (yaa (yaa (wpAny_loadPart j (yaa (PySem.W.Looks.here (s:={s with toks:=s.toks+1}) (PySem.W.looks_clsIn X k) ?_))))));rw[g];refine yae (a:=some dx) (yaa (yae (yaa ?_)));refine wpAny_nsSet1 (s:={s with toks:=s.toks+1}) I.ns fun h' d c=>?_
 obtain⟨oD,l,m,e,f,i⟩:=d.count (PySem.Within.cons name v hw);refine yaa (wpAny_lookBehind e (by rw[f];exact pastItsLine_dict (yak i (by rw[yar];omega))) ?_);exact yae (h _ ⟨(c.2 _ (Ne.symm I.ne)).trans I.obj,d,I.ne⟩ c)
def zoF{R:Result->Shared->Prop}{vs:List Value}{kw:List (Str×Value)}(X:K.In s.heap)(hm:PySem.W.makesIn K C=true)
  (hi:PySem.W.findIn K (.ref C) "__init__"=some (some (.ref f))) (hf:PySem.W.typeIn K (.ref f)=some (.type "function"))
  (h:codeAny (model prog w) (A.under (.builtin "type.__call__" ⟨.ref C::vs,kw⟩)) (.call (.ref f) ⟨.ref (s.heap.objs.size+1)::vs,kw⟩) (PySem.W.InitBack (s.heap.objs.size+1) R)
   {s with heap:=(s.heap.push PySem.W.emptyDict).push (PySem.W.instObj C s.heap.objs.size)}):
  codeAny (model prog w) A (.call (.ref C) ⟨vs,kw⟩) R s:=by
 obtain⟨a,g,d,t,os⟩:=s;exact PySem.W.make_core (PySem.W.makes_of X hm) (PySem.W.looks_findIn X hi) (fun self=>PySem.W.bind_fn X self hf) (.inl rfl) h
end
noncomputable def zde(f:Str)(v:V):List (Str×V)->List (Str×V)
 |[]=>[(f,v)]|(g,x)::r=>if g=f then(g,v)::r else(g,x)::zde f v r
theorem zgb(f g:Str)(v:V):∀fs:List (Str×V),(zde f v fs).lookup g=if g=f then some v else fs.lookup g
 |[]=>by
  show List.lookup g [(f,v)]=_
  by_cases h:g=f
  ·have a:(g==f)=true:=yce.mpr h;simp only[List.lookup,a,if_pos h]
  ·have a:(g==f)=false:=ya2.mpr h;simp only[List.lookup,a,if_neg h]
 |(k,x)::r=>by
  have c:=zgb f g v r;rw[show zde f v ((k,x)::r)=(if k=f then(k,v)::r else(k,x)::zde f v r)from rfl]
  by_cases b:k=f
  ·rw[if_pos b]
   by_cases h:g=k
   ·have a:(g==k)=true:=yce.mpr h;simp only[List.lookup,a,if_pos (h.trans b)]
   ·have a:(g==k)=false:=ya2.mpr h;simp only[List.lookup,a,if_neg (fun e:g=f=>h (e.trans b.symm))]
  ·rw[if_neg b]
   by_cases h:g=k
   ·have a:(g==k)=true:=yce.mpr h;simp only[List.lookup,a,if_neg (fun e:g=f=>b (h.symm.trans e))]
   ·have a:(g==k)=false:=ya2.mpr h;simp only[List.lookup,a];exact c
theorem zgd(f:Str)(v:V):∀fs:List (Str×V),f∈(zde f v fs).map (·.1)/\∀g,g∈fs.map (·.1)->g∈(zde f v fs).map (·.1)
 |[]=>⟨by simp[zde],fun g h=>by simp at h⟩
 |(k,x)::r=>by
  obtain⟨i1,i2⟩:=zgd f v r;rw[show zde f v ((k,x)::r)=(if k=f then(k,v)::r else(k,x)::zde f v r)from rfl]
  by_cases a:k=f
  ·rw[if_pos a];subst a;exact⟨by simp,fun g h=>by simpa using h⟩
  ·rw[if_neg a];refine⟨?_,fun g h=>?_⟩
   ·rw[yav];exact yas _ i1
   ·rw[yav]at h ⊢
    rcases yan.mp h with e|e
    ·exact yan.mpr (.inl e)
    ·exact yas _ (i2 g e)
theorem zgc(f:Str)(v:V):∀fs:List (Str×V),(zde f v fs).length<=fs.length+1
 |[]=>by simp[zde]
 |(k,x)::r=>by
  have b:=zgc f v r;rw[show zde f v ((k,x)::r)=(if k=f then(k,v)::r else(k,x)::zde f v r)from rfl]
  by_cases a:k=f
  ·rw[if_pos a,yar,yar];omega
  ·rw[if_neg a,yar,yar];omega
def znG.some_of(r:znG (some v) o):∃u,o=some u/\zbu v u:=by
 cases o with
 |none=>exact(show False from r).elim|some u=>exact⟨u,rfl,r⟩
def znG.none_of(r:znG none o):o=none:=by
 cases o with
 |none=>rfl|some u=>exact(show False from r).elim
def zm5(r:zbu v u):PySem.W.handedIn u=true:=by
 cases v with
 |non=>cases (show u=Value.none from r);rfl|bl b=>cases (show u=Value.bool b from r);rfl|int i=>obtain⟨t,e⟩:=(show ∃t,u=Value.int i t from r);cases e;rfl|str x=>obtain⟨t,e⟩:=(show ∃t,u=Value.str x t from r);cases e;rfl|byt b=>obtain⟨t,e⟩:=(show ∃t,u=Value.bytes b t from r);cases e;rfl|flt b=>obtain⟨t,e⟩:=(show ∃t,u=Value.float b t from r);cases e;rfl|ref a=>cases (show u=Value.ref a from r);rfl|ty n=>cases (show u=Value.type n from r);rfl
section
variable{P:Program}{w:World}{H H':Hp}{h h':Heap}{a C dx:Addr}{fs fs':List (Str×V)}
def zhF(hok:HOk P w H h)(e:H a=some (.ins C dx fs)):∃mA,ObjM h a dx C mA/\(∀f,znG (fs.lookup f) (mA f))/\PySem.Within mA (fs.map (·.1))/\fs.length<=1000/\H dx=some (.own a):=by
 obtain⟨d,z,ne,ob,mA,n,r,q⟩:=(show zbJ P w H h a (.ins C dx fs)from hok a _ e);exact⟨mA,⟨ob,n,ne⟩,r,q,z,d⟩
end
structure Cls(K:PySem.W.Frag)(C:Addr):Prop where
 pg:PySem.W.plainGet K C Str.empty=true
 hd:PySem.W.hasDictIn K C=true
 po:PySem.W.plainOver K C=true
 sa:PySem.W.findIn K (.ref C) "__setattr__"=some (some (.builtin "object.__setattr__"))
def Cls.get{K:PySem.W.Frag}(c:Cls K C)(f:Str):PySem.W.plainGet K C f=true:=c.pg
noncomputable def zdE(K:PySem.W.Frag)(C:Addr)(f:Str):Prop:=PySem.W.findIn K (.ref C) f=some none
def zdE.taker{K:PySem.W.Frag}(n:zdE K C f):PySem.W.takerIn K C f=some none:=by
 unfold PySem.W.takerIn;rw[show PySem.W.findIn K (.ref C) f=some none from n];rfl
structure Meth(K:PySem.W.Frag)(C:Addr)(m:Str)(f:Addr):Prop where
 at_:PySem.W.findIn K (.ref C) m=some (some (.ref f))
 fn:PySem.W.isFn K (.ref f)=true
 kp:PySem.W.keepIn K (.ref f)=true
section
variable{X:Cx}{pins:Z3}{σ:St}{H:Hp}{s:Shared}{a C dx:Addr}{fs:List (Str×V)}{f:Str}{v:V}{A:Around}{E:Z5}
def zk4(I:Inv X pins σ H s)(e:H a=some (.ins C dx fs))(c:Cls X.K C)(n:zdE X.K C f)(l:fs.lookup f=some v)
  (h:∀u s',Inv X pins σ H s'->zbu v u->Q u s'):wpAny (model X.prog X.w) A (getAttr (.ref a) f b) Q E s:=by
 obtain⟨mA,O,r,_,_,_⟩:=zhF I.hok e;obtain⟨u,g,d⟩:=znG.some_of (v:=v) (o:=mA f) (by rw[<-l];exact r f);exact zrB I.kIn O (c.get f) c.hd n g (zm5 d) (h u _ (I.tok _) d)
def zg5(I:Inv X pins σ H s)(e:H a=some (.ins C dx fs))(c:Cls X.K C)(k:Meth X.K C m g)(l:fs.lookup m=none)
  (h:Q (.ref g,[.ref a]) s):wpAny (model X.prog X.w) A (getMethod (.ref a) m pl) Q E s:=by
 obtain⟨mA,O,r,_,_,_⟩:=zhF I.hok e;have b:mA m=none:=znG.none_of (by rw[<-l];exact r m);exact zoV I.kIn O (c.get m) k.at_ k.fn b h
def zkL(I:Inv X pins σ H s)(e:H a=some (.ins C dx fs))(c:Cls X.K C)(n:zdE X.K C f)(U:fs.length<1000)(J:zbu y u)
  (h:∀s',Inv X pins σ (upd H a (.ins C dx (zde f y fs))) s'->Q () s'):wpAny (model X.prog X.w) A (setAttr (.ref a) f u) Q E s:=by
 obtain⟨mA,O,r,wi,_,i⟩:=zhF I.hok e
 have k:(fs.map (·.1)).length<=sizeLine:=by rw[yaf,ybM];omega
 refine zqy I.kIn O c.sa c.po n.taker c.hd wi k fun h' d j=>h _ ?_
 have hd:∃o,h'.get? dx=some o:=let ⟨o,_,_,p,_⟩:=d.ns;⟨o,p⟩
 refine I.write (x:=a) (e:=dx) (by rw[e];exact True.intro) (.inr i) (fun b q m z=>(j.2 b m).trans z) hd ?_;refine⟨by rw[zai O.ne];exact i,?_,O.ne,d.obj,_,d.ns,fun g=>?_,fun g l=>?_⟩
 ·have:=zgc f y fs;omega
 ·show znG ((zde f y fs).lookup g) (if g=f then some u else mA g);rw[zgb]
  by_cases q:g=f
  ·rw[if_pos q,if_pos q];exact J
  ·rw[if_neg q,if_neg q];exact r g
 ·by_cases q:g=f
  ·rw[q];exact(zgd f y fs).1
  ·refine(zgd f y fs).2 g (wi g fun z=>l ?_);show(if g=f then some u else mA g)=none;rw[if_neg q];exact z
def Inv.made(I:Inv X pins σ H s):Inv X pins σ (upd (upd H s.heap.objs.size (.own (s.heap.objs.size+1))) (s.heap.objs.size+1) (.ins C s.heap.objs.size []))
  {s with heap:=(s.heap.push PySem.W.emptyDict).push (PySem.W.instObj C s.heap.objs.size)}:=by
 have c:(s.heap.push PySem.W.emptyDict).get? s.heap.objs.size=some PySem.W.emptyDict:=yaq s.heap rfl
 have g:((s.heap.push PySem.W.emptyDict).push (PySem.W.instObj C s.heap.objs.size)).get? (s.heap.objs.size+1)=some (PySem.W.instObj C s.heap.objs.size):=by
  have:=yaq (s.heap.push PySem.W.emptyDict) (o:=PySem.W.instObj C s.heap.objs.size) rfl
  rwa[ya6]at this
 have f:(s.heap.push PySem.W.emptyDict).Ns s.heap.objs.size (fun _=>none):=⟨PySem.W.emptyDict,#[],_,c,rfl,(fun e he=>absurd he (by simp)),fun _=>rfl⟩;have h:=I.laid (a:=s.heap.objs.size) (o:=.own (s.heap.objs.size+1)) (h':=s.heap.push PySem.W.emptyDict) (t':=s.toks) (fun b u q=>yac _ q) (yag _) ⟨_,c⟩;refine h.laid (a:=s.heap.objs.size+1) (o:=.ins C s.heap.objs.size []) (t':=s.toks) (fun b u q=>yac _ q) (ybI (ya6 _ _)) ?_;have ne:s.heap.objs.size≠s.heap.objs.size+1:=yaz (yb2 _);refine⟨by rw[zai ne,zan],yaF _,ne,g,fun _=>none,(Heap.Ns1.of_empty f).at fun o q=>yac _ q,fun _=>True.intro,fun y d=>absurd rfl d⟩
def zrW(J:attributeBase e f env (eval e env)=eval e env)
  (h:wpAny (model prog w) A (eval e env) (fun o I=>wpAny (model prog w) A (getAttr o f true) Q E I) E s):wpAny (model prog w) A (eval (.Attribute e f pos) env) Q E s:=
 Attribute_any_ h (by rw[arm_eval_Attribute,J])
end
noncomputable def zxs(K:PySem.W.Frag)(ta:TE)(f:Str):TE:=fun σ H Q=>ta σ H fun x H1=>∃a C dx fs v,x=.ref a/\H1 a=some (.ins C dx fs)/\Cls K C/\zdE K C f/\fs.lookup f=some v/\Q v H1
noncomputable def zzh(K:PySem.W.Frag)(ta tv:TE)(f:Str):TS:=fun D σ H=>tv σ H fun y H1=>ta σ H1 fun x H2=>∃a C dx fs,x=.ref a/\H2 a=some (.ins C dx fs)/\Cls K C/\zdE K C f/\fs.length<1000 ∧
 D.nx σ (upd H2 a (.ins C dx (zde f y fs)))
noncomputable def zyy(X:Cx)(op:Operator)(I:V->V->Hp->VK->Prop):Prop:=
 ∀(pins:Z3) (s:Shared) (σ:St) (H:Hp) (x y:V) (u v:Value) (Q:VK),Inv X pins σ H s->zbu x u->zbu y v->I x y H Q->wpAny (model X.prog X.w) X.A (inplaceOp op u v) (EP X pins σ Q) X.xe s
section
variable{X:Cx}{o e value:Expr}{f:Str}{pos pos' tpos:Pos}{ta tv:TE}
def zeK(he:PE X e ta)(J:attributeBase e f X.env (eval e X.env)=eval e X.env):PE X (.Attribute e f pos) (zxs X.K ta f):=by
 intro pins s σ H Q I h;refine zrW J (thn (he pins s σ H _ I h) fun u s1 ⟨x,H1,j,b,a,C,dx,fs,v,ex,g,c,n,l,q⟩=>?_);subst ex;obtain rfl:u=Value.ref a:=b;exact zk4 j g c n l fun k s2 i d=>⟨v,H1,i,d,q⟩
def zmh(U:PE X o ta)(J:PE X value tv)(hs:swapsWith value (some (.Attribute o f pos')) pos.line X.env=pure false):PS X (.Assign [.Attribute o f pos'] value pos) (zzh X.K ta tv f):=by
 intro pins s σ H D I h;refine plainObj_wpAny_Assign_Attribute (thn (J pins s σ H _ I h) fun u s1 ⟨y,H1,k,b,q⟩=>thn (U pins s1 σ H1 _ k q) fun ov s2 ⟨x,H2,j,d,a,C,dx,fs,ex,g,c,n,l,e⟩=>?_) hs;subst ex;obtain rfl:ov=Value.ref a:=d;exact zkL j g c n l b fun m i=>⟨σ,_,i,e⟩
noncomputable def zxv:V->V->Hp->VK->Prop:=fun x y H Q=>∃i j,x=.int i/\y=.int j/\Q (.int (i+j)) H
noncomputable def zxu:V->V->Hp->VK->Prop:=fun x y H Q=>∃i j,x=.int i/\y=.int j/\Q (.int (i-j)) H
def zus:zyy X .Add zxv:=by
 rintro pins s σ H x y u v Q I b a ⟨i,j,rfl,rfl,q⟩;obtain⟨t,rfl⟩:=(show ∃t,u=Value.int i t from b);obtain⟨t',rfl⟩:=(show ∃t',v=Value.int j t' from a);exact PyProof.Rows.iadd_int ⟨.int (i+j),H,I.tok _,⟨_,rfl⟩,q⟩
def zur:zyy X .Sub zxu:=by
 rintro pins s σ H x y u v Q I b a ⟨i,j,rfl,rfl,q⟩;obtain⟨t,rfl⟩:=(show ∃t,u=Value.int i t from b);obtain⟨t',rfl⟩:=(show ∃t',v=Value.int j t' from a);exact PyProof.Rows.isub_int ⟨.int (i-j),H,I.tok _,⟨_,rfl⟩,q⟩
end
section
variable{X:Cx}{pins:Z3}{σ:St}{H:Hp}{s:Shared}{A:Around}{E:Z5}{Q:Z5}{c:Value}{b:Bool}
inductive TyOf(K:PySem.W.Frag)(H:Hp):V->Value->Prop where
 |non:TyOf K H .non (.type "NoneType")
 |bl (x:Bool):TyOf K H (.bl x) (.type "bool")
 |int (i:Int):TyOf K H (.int i) (.type "int")
 |str (x:Str):TyOf K H (.str x) (.type "str")
 |flt (x:UInt64):TyOf K H (.flt x) (.type "float")
 |lst {a:Addr}{xs:List V} (e:H a=some (.lst xs)):TyOf K H (.ref a) (.type "list")
 |frz {a:Addr}{o:Obj}{xs:List V} (e:H a=some (.frz o (.lst xs))):TyOf K H (.ref a) (.type "list")
 |tup {a:Addr}{xs:List V} (e:H a=some (.tup xs)):TyOf K H (.ref a) (.type "tuple")
 |dK {a:Addr}{kvs:List (Key×V)} (e:H a=some (.dK kvs)):TyOf K H (.ref a) (.type "dict")
 |dT {a:Addr}{kvs:List (List Key×V)} (e:H a=some (.dT kvs)):TyOf K H (.ref a) (.type "dict")
 |ins {a C dx:Addr}{fs:List (Str×V)} (e:H a=some (.ins C dx fs)) (cl:Cls K C) (ha:PySem.W.findIn K (.ref C) "__class__"=some (some (.builtin "object.__class__")))
   (hn:PySem.W.specialIn K (.builtin "object.__class__") "__get__"=some (some (.builtin "getset_descriptor.__get__"))) (htk:PySem.W.takesIn K (.builtin "object.__class__")=some true)
   (hm:PySem.W.mroIn K C (.type "object")=some true):TyOf K H (.ref a) (.ref C)
def zmW{x:V}{u t:Value}(I:Inv X pins σ H s)(U:zbu x u)(ty:TyOf X.K H x t)(e:PySem.W.kitOne X.K t c=some b)(h:∀tk,Q (.bool b) {s with toks:=tk}):
  wpAny (model X.prog X.w) A (call (.builtin "isinstance") [u,c]) Q E s:=by
 cases ty with
 |non=>cases (show u=Value.none from U);exact ya9 PySem.W.kitx_none I.kIn True.intro e (fun z=>nomatch z) h|bl y=>cases (show u=Value.bool y from U);exact ya9 PySem.W.kitx_bool I.kIn True.intro e (fun z=>nomatch z) h|int i=>obtain⟨t,q⟩:=(show ∃t,u=Value.int i t from U);cases q;exact ya9 PySem.W.kitx_int I.kIn True.intro e (fun z=>nomatch z) h|str y=>obtain⟨t,q⟩:=(show ∃t,u=Value.str y t from U);cases q;exact ya9 PySem.W.kitx_str I.kIn True.intro e (fun z=>nomatch z) h|flt y=>obtain⟨t,q⟩:=(show ∃t,u=Value.float y t from U);cases q;exact ya9 PySem.W.kitx_float I.kIn True.intro e (fun z=>nomatch z) h| @lst a xs d=>
  cases (show u=Value.ref a from U);obtain⟨_,_,n,_,h1⟩:=(show zbJ X.prog X.w H s.heap a (.lst xs)from I.hok a _ d);exact ya9 ydj I.kIn ⟨_,h1,rfl⟩ e (fun z=>nomatch z) h
 | @frz a ob xs d=>
  cases (show u=Value.ref a from U);obtain⟨_,_,_,n,_,h1⟩:=(show zbJ X.prog X.w H s.heap a (.frz ob (.lst xs))from I.hok a _ d);exact ya9 ydj I.kIn ⟨_,h1,rfl⟩ e (fun z=>nomatch z) h
 | @tup a xs d=>
  cases (show u=Value.ref a from U);obtain⟨_,_,_,p⟩:=(show zbJ X.prog X.w H s.heap a (.tup xs)from I.hok a _ d);obtain⟨o,h1,h2,_⟩:=p;exact ya9 PySem.W.kitx_tuple I.kIn ⟨o,h1,h2⟩ e (fun z=>nomatch z) h
 | @dK a f d=>
  cases (show u=Value.ref a from U);obtain⟨_,_,vs,_,p⟩:=(show zbJ X.prog X.w H s.heap a (.dK f)from I.hok a _ d);obtain⟨o,es,ep,h1,h2,_⟩:=p;exact ya9 PySem.W.kitx_dict I.kIn ⟨o,h1,h2.1⟩ e (fun z=>nomatch z) h
 | @dT a f d=>
  cases (show u=Value.ref a from U);obtain⟨_,_,xs,_,o,es,ep,h1,h2,_⟩:=(show zbJ X.prog X.w H s.heap a (.dT f)from I.hok a _ d);exact ya9 PySem.W.kitx_dict I.kIn ⟨o,h1,h2.1⟩ e (fun z=>nomatch z) h
 | @ins a C dx fs d cl k j g hm=>
  cases (show u=Value.ref a from U);obtain⟨mA,O,_⟩:=zhF I.hok d;obtain⟨l,J,_⟩:=O.look;exact ya9 (PySem.W.kitx_own (cl.get _) cl.hd k j g hm) I.kIn J e (fun z=>nomatch z) h
end
structure Room(k:Nat)(A:Around):Prop where
 hd:A.handled=none
 dp:A.depth+3*k+5<recursionLimit
 un:A.units+16*k+200<cLine
theorem Room.mono(r:Room k A)(h:j<=k):Room j A:=⟨r.hd,by have:=r.dp;omega,by have:=r.un;omega⟩
theorem Room.deeper(r:Room (k+1) A)(env:Env):Room k (A.deeper env):=
 ⟨r.hd,by have:=r.dp;show A.depth+1+3*k+5<_;omega,by have:=r.un;show A.units+3+16*k+200<_;omega⟩
def zk0{A:Around}:(A.under (.builtin "type.__call__" ⟨.ref C::us,kw⟩)).depth=A.depth+1:=by
 first|rfl|simp[Around.under,Code.weight,Code.isCreation,Code.isGuard,Code.isCaller,Code.frames,Code.isFrame,guardIds]
def zkZ{A:Around}:(A.under (.builtin "type.__call__" ⟨.ref C::us,kw⟩)).units=A.units+1:=by
 first|rfl|simp[Around.under,Code.cUnits,Code.frames,Code.isFrame]
theorem Room.make(r:Room (k+1) A)(C:Addr)(us:List Value)(kw:List (Str×Value)):Room k (A.under (.builtin "type.__call__" ⟨.ref C::us,kw⟩)):=
 ⟨r.hd,by have:=r.dp;rw[zk0];omega,by have:=r.un;rw[zkZ];omega⟩
theorem Room.depth(r:Room k A):A.depth<recursionLimit:=by have:=r.dp;omega
theorem Room.units(r:Room k A):A.units+64<cLine:=by have:=r.un;omega
noncomputable def zll:TA:=fun _ H Q=>Q [] H
noncomputable def ze8(ta:TE)(I:TA):TA:=fun σ H Q=>ta σ H fun x H1=>I σ H1 fun xs H2=>Q (x::xs) H2
section
variable{X:Cx}{e:Expr}{es:List Expr}{te:TE}{t:TA}{pos:Pos}
def zaQ:PA X [] zll:=fun _ _ _ _ H Q I h=>Calls.spliced_nil ⟨[],H,I,.nil,h⟩
def zam(U:PE X e te)(J:PA X es t)(hs:autoParam (starEach (e::es) X.env=(false,eval e X.env)::starEach es X.env) yAW):PA X (e::es) (ze8 te t):=by
 intro pos pins s σ H Q I h;rw[hs];show wpAny _ _ (spliced ((false,eval e X.env)::backTo pos (starEach es X.env))) _ _ s;refine Calls.spliced_cons (thn (U pins s σ H _ I h) fun u s1 ⟨x,H1,f,r1,c⟩=>?_);exact thn (J pos pins s1 σ H1 _ f c) fun us s2 ⟨xs,H2,d,a,b⟩=>⟨x::xs,H2,d,.cons r1 a,b⟩
noncomputable def zy7(t:TA):TE:=fun σ H Q=>t σ H fun xs H1=>xs.length<=sizeLine/\∀p,H1 p=none->Q (.ref p) (upd H1 p (.tup xs))
noncomputable def zzb(t:TA):TE:=fun σ H Q=>t σ H fun xs H1=>xs.length<=sizeLine/\∀p,H1 p=none->Q (.ref p) (upd H1 p (.lst xs))
def zpy{x1}(h:PA X es t):PE X (.Tuple es x1 pos) (zy7 t):=by
 intro pins s σ H Q I c;refine wpAny_Tuple_spliced (thn (h pos pins s σ H _ I c) fun us s1 ⟨xs,H1,a,r,z,q⟩=>⟨by rw[<-r.length];exact z,?_⟩);have hf:H1 s1.heap.objs.size=none:=a.hok.fresh (yag _);refine⟨.ref s1.heap.objs.size,upd H1 s1.heap.objs.size (.tup xs),a.laid (t':=s1.toks) (fun b u e=>yac _ e) (yag _) ?_,rfl,q _ hf⟩;exact⟨z,us,r,⟨_,yaq _ rfl,rfl,_,rfl⟩⟩
def zpz(h:PA X es t):PE X (.List es pos) (zzb t):=by
 intro pins s σ H Q I c;refine wpAny_List_spliced (thn (h pos pins s σ H _ I c) fun us s1 ⟨xs,H1,a,r,z,q⟩=>⟨by rw[<-r.length];exact z,?_⟩);have hf:H1 s1.heap.objs.size=none:=a.hok.fresh (yag _);refine⟨.ref s1.heap.objs.size,upd H1 s1.heap.objs.size (.lst xs),a.laid (t':=s1.toks) (fun b u e=>yac _ e) (yag _) ?_,rfl,q _ hf⟩;exact⟨z,us,0,r,yaq _ rfl⟩
end
noncomputable abbrev Sp:=List V->Hp->VK->XK->Prop
noncomputable abbrev CXT:=List Env->Hp->Shared->XK->Value->Shared->Prop
structure Env0(P:Program)(w:World)(K:PySem.W.Frag)(mg:Z6)(base:Heap)(A:Around)(outer:List Env)(s:Shared)(H:Hp):Prop where
 frames:A.frames=some outer
 mod:Mod K mg base
 bs:∀b o,base.get? b=some o->s.heap.get? b=some o/\H b=none
 bsz:base.objs.size<=s.heap.objs.size
 funs:s.heap.FunFrames base outer
 frf:∀b∈frs outer,H b=none
 hok:HOk P w H s.heap
 bare:AllBare s.gens
noncomputable def CE(outer:List Env)(P:Program)(w:World)(H:Hp)(s:Shared)(Q:VK)(u:Value)(s':Shared):Prop:=
 ∃v H',s'.os=s.os/\AllBare s'.gens/\Un (frs outer) [] H H' s.heap s'.heap/\HOk P w H' s'.heap/\zbu v u/\Q v H'
noncomputable def CR(CX:CXT)(outer:List Env)(P:Program)(w:World)(H:Hp)(s:Shared)(Q:VK)(E:XK)(r:Result)(s':Shared):Prop:=
 match r with
 |.ok (.ret u)=>CE outer P w H s Q u s'|.ok _=>False|.error e=>CX outer H s E e s'
structure FnOk(P:Program)(w:World)(K:PySem.W.Frag)(mg:Z6)(base:Heap)(CX:CXT)(k:Nat)(f:Addr)(fd:FuncData)(ps:List Str)(sp:Sp):Prop where
 len:∀vs H Q E,sp vs H Q E->vs.length=ps.length
 run:∀(A:Around) (outer:List Env) (s:Shared) (H:Hp) (args:Args) (us:List Value) (vs:List V) (Q:VK) (E:XK),Room k A->Env0 P w K mg base A outer s H->BindsTo s fd args (ps.zip us)->Vals vs us->sp vs H Q E →
  codeAny (model P w) A (.call (.ref f) args) (CR CX outer P w H s Q E) s
theorem FnOk.mono{P:Program}{K:PySem.W.Frag}{j k:Nat}(F:FnOk P w K mg base CX j f fd ps sp)(h:j<=k):
  FnOk P w K mg base CX k f fd ps sp:=⟨F.len,fun A outer s H args us vs Q E a=>F.run A outer s H args us vs Q E (a.mono h)⟩
def FnOk.imp{P:Program}{K:PySem.W.Frag}{k:Nat}(F:FnOk P w K mg base CX k f fd ps sp)
  (h:∀vs H Q E,I vs H Q E->sp vs H Q E):FnOk P w K mg base CX k f fd ps I:=
 ⟨fun vs H Q E q=>F.len vs H Q E (h _ _ _ _ q),fun A outer s H args us vs Q E b he c a hs=>F.run A outer s H args us vs Q E b he c a (h _ _ _ _ hs)⟩
def Env0.make{P:Program}{K:PySem.W.Frag}{A:Around}(e:Env0 P w K mg base A outer s H)(C:Addr)(us:List Value)(kw:List (Str×Value)):
  Env0 P w K mg base (A.under (.builtin "type.__call__" ⟨.ref C::us,kw⟩)) outer s H:=⟨by first|exact e.frames|(simpa[Around.under,Code.envs,Code.isFrame,pushEnvs]using e.frames),e.mod,e.bs,e.bsz,e.funs,e.frf,e.hok,e.bare⟩
section
variable{X:Cx}{pins:Z3}{σ:St}{H:Hp}{s s':Shared}
def Inv.env0(I:Inv X pins σ H s):Env0 X.prog X.w X.K X.mg X.base X.A X.stack s H:=
 ⟨I.ok.frames,I.ok.mod,I.bs,yak I.ok.bsz I.sz,I.stack,I.stkFree,I.hok,I.bare⟩
def Inv.after(I:Inv X pins σ H s)(h:CE X.stack X.prog X.w H s Q u s'):EP X pins σ Q u s':=by
 obtain⟨v,H',os,bare,un,hok,r,q⟩:=h;obtain⟨c,g,d,t,a⟩:=s';obtain rfl:a=s.os:=os;exact⟨v,H',I.call (h':=c) (g':=g) (d':=d) (t':=t) (ch:=[]) un hok bare (fun b z=>absurd z (by simp)),r,q⟩
end
noncomputable def zkI(sp:Sp)(dvs:List V)(E:XK)(t:TA):TE:=fun σ H Q=>t σ H fun vs H1=>sp (vs++dvs) H1 Q E
noncomputable def zbz(K:PySem.W.Frag)(fd:FuncData)(ps:List Str)(ds:List Value):Prop:=
 ∀(s:Shared) (us:List Value),K.In s.heap->(us++ds).length=ps.length->BindsTo s fd ⟨us,[]⟩ (ps.zip (us++ds))
def zbz.all{K:PySem.W.Frag}{ps:List Str}(h:∀us:List Value,us.length=ps.length->bindArgs fd ⟨us,[]⟩=pure (ps.zip us)):zbz K fd ps []:=fun s us _ a=>by
 rw[ya3]at a ⊢;exact .of_eq (h us a)
noncomputable def zi1(CX:CXT)(X:Cx)(E:XK):Prop:=∀(pins:Z3) (σ:St) (H:Hp) (s:Shared) (e:Value) (s':Shared),Inv X pins σ H s->CX X.stack H s E e s'->X.xe e s'
section
variable{X:Cx}{CX:CXT}{k:Nat}{f C:Addr}{fd:FuncData}{ps:List Str}{sp:Sp}{dvs:List V}{ds:List Value}{E:XK}{x m:Str}{p pos apos:Pos}{e o:Expr}{es:List Expr}{ta:TE}{t:TA}
def zs9{pins:Z3}{σ:St}{H:Hp}{s:Shared}{Q:VK}{us:List Value}{vs:List V}(F:FnOk X.prog X.w X.K X.mg X.base CX k f fd ps sp)(U:Room k X.A)(hb:zbz X.K fd ps ds)(hd:Vals dvs ds)(J:zi1 CX X E)
  (I:Inv X pins σ H s) (r:Vals vs us) (h:sp (vs++dvs) H Q E):wpAny (model X.prog X.w) X.A (call (.ref f) us) (EP X pins σ Q) X.xe s:=by
 have b:Vals (vs++dvs) (us++ds):=r.append hd
 have c:(us++ds).length=ps.length:=by rw[<-b.length];exact F.len _ _ _ _ h
 refine wpAny_call (ycR (F.run X.A X.stack s H ⟨us,[]⟩ (us++ds) (vs++dvs) Q E U I.env0 (hb s us I.kIn c) b h) fun r s' a=>?_)
 cases r with
 |error e=>exact J pins σ H s e s' I a|ok d=>
  cases d with
  |ret u=>exact I.after a|next=>exact False.elim a|brk=>exact False.elim a|cont=>exact False.elim a
def zhx(F:FnOk X.prog X.w X.K X.mg X.base CX k f fd ps sp)(hr:Room k X.A)(hg:Gl X x)(hm:X.mg x=some (.ref f))(hk:PySem.W.keepIn X.K (.ref f)=true)(hb:zbz X.K fd ps ds)(hd:Vals dvs ds)(U:zi1 CX X E)
  (ha:PA X (e::es) t) (J:autoParam ((x==("__debug__":Str))=false) yAR) (he:autoParam (starEach (e::es) X.env=(false,eval e X.env)::starEach es X.env) yAW) (ah:autoParam ((backTo pos (starEach es X.env)).any (·.1)=false) yAW):
  PE X (.Call (.Name x p) (e::es) [] pos) (zkI sp dvs E t):=by
 intro pins s σ H Q I h;refine ybJ (zeo I hg hm ?_ J);refine ycz (h₀:=X.base) I.ok.mod.kin hk (thn (ha pos pins s σ H _ I h) fun us s1 ⟨vs,H1,a,r,q⟩=>⟨a.kIn,?_⟩) he ah;exact zs9 F hr hb hd U a r q
structure Mk(K:PySem.W.Frag)(C f:Addr):Prop where
 makes:PySem.W.makesIn K C=true
 init:PySem.W.findIn K (.ref C) "__init__"=some (some (.ref f))
 fn:PySem.W.isFn K (.ref f)=true
 kp:PySem.W.keepIn K (.ref C)=true
end
structure FnScope(N P:List Str)(sc:Scope):Prop where
 kind:sc.kind=.function
 co:sc.isCoroutine=false
 gen:sc.isGenerator=false
 nd:N.Nodup
 pre:N.take P.length=P
 par:∀x∈P,sc.names.lookup x=some .local\/sc.names.lookup x=some .cell
 nofree:∀y∈sc.names,y.2≠.free
theorem ziU{kindOf:Str->Option NameKind}:∀{binds:List (Str×Value)}{m:Z6},(∀v,(x,v) ∉ binds)->bindL kindOf binds m x=m x
 |[],_,_=>rfl|(n,v)::r,m,h=>by
  unfold bindL;rw[ziU fun w a=>h w (yas _ a)];split
  ·have:x≠n:=by rintro rfl;exact h v yay
   simp[this]
  ·rfl
theorem ziW{kindOf:Str->Option NameKind}:∀{binds:List (Str×Value)}{m:Z6},(∀v,(x,v) ∉ binds)->bindC kindOf binds m x=m x
 |[],_,_=>rfl|(n,v)::r,m,h=>by
  unfold bindC;rw[ziW fun w a=>h w (yas _ a)];split
  ·rfl
  ·have:x≠n:=by rintro rfl;exact h v yay
   simp[this]
theorem ziV{kindOf:Str->Option NameKind}:∀{P:List Str}{vs:List Value}{i:Nat}{m:Z6},P.Nodup->P[i]?=some x->vs[i]?=some v->kindOf x=some .local →
  bindL kindOf (P.zip vs) m x=some v
 |[],_,_,_,_,h,_,_=>by simp at h
 |_::_,[],_,_,_,_,h,_=>by simp at h
 |p::P,w::vs,0,m,nd,h1,h2,a=>by
  simp at h1 h2;subst h1;subst h2;show bindL kindOf ((p,w)::P.zip vs) m p=_;unfold bindL;rw[ziU fun v b=>(ybk.mp nd).1 (List.of_mem_zip b).1,if_pos a];simp
 |p::P,w::vs,i+1,m,nd,h1,h2,a=>by
  show bindL kindOf ((p,w)::P.zip vs) m x=_;unfold bindL;exact ziV (i:=i) (ybk.mp nd).2 (by simpa using h1) (by simpa using h2) a
theorem ziX{kindOf:Str->Option NameKind}:∀{P:List Str}{vs:List Value}{i:Nat}{m:Z6},P.Nodup->P[i]?=some x->vs[i]?=some v->kindOf x≠some .local →
  bindC kindOf (P.zip vs) m x=some v
 |[],_,_,_,_,h,_,_=>by simp at h
 |_::_,[],_,_,_,_,h,_=>by simp at h
 |p::P,w::vs,0,m,nd,h1,h2,a=>by
  simp at h1 h2;subst h1;subst h2;show bindC kindOf ((p,w)::P.zip vs) m p=_;unfold bindC;rw[ziW fun v b=>(ybk.mp nd).1 (List.of_mem_zip b).1,if_neg a];simp
 |p::P,w::vs,i+1,m,nd,h1,h2,a=>by
  show bindC kindOf ((p,w)::P.zip vs) m x=_;unfold bindC;exact ziX (i:=i) (ybk.mp nd).2 (by simpa using h1) (by simpa using h2) a
noncomputable def zgD(N:List Str)(vs:List V):St:=vs.map some++List.replicate (N.length-vs.length) none
noncomputable def zjv(CX:CXT)(P:Program)(w:World)(K:PySem.W.Frag)(mg:Z6)(base:Heap)(N:List Str)(qual:Str)(scope:Scope)(f:Addr)(cd:Value)(A:Around)(outer:List Env)(s:Shared)(H:Hp)(E:XK):Cx where
 prog:=P
 w:=w
 K:=K
 mg:=mg
 base:=base
 A:=A.deeper (envOfC qual scope s.heap.objs.size f cd)
 N:=N
 s₀:=s
 H₀:=H
 env:=envOfC qual scope s.heap.objs.size f cd
 outer:=outer
 stack:=envOfC qual scope s.heap.objs.size f cd::outer
 ex:=[]
 calm:=true
 fn:=fun _=>true
 pn:=[]
 xe:=fun e s'=>wpAny (model P w) (A.deeper (envOfC qual scope s.heap.objs.size f cd)) (leaving (envOfC qual scope s.heap.objs.size f cd) e) (fun _ a=>CX outer H s E e a) (fun b a=>CX outer H s E b a) s'
def zky{sc:Scope}(h:sc.names.lookup x=some .cell):∃c,(cellsFrom n sc.names []).lookup x=some c:=by
 have q:=PySem.W.cellsFrom_some sc.names n [] (.inl h);exact Option.isSome_iff_exists.mp q
theorem zmZ{P:Program}{K:PySem.W.Frag}{N ps:List Str}{scope:Scope}{A:Around}{s s1:Shared}{vs:List V}
  (S:FnScope N ps scope) (hd:A.handled=none) (I:Env0 P w K mg base A outer s H) (J:vs.length=ps.length) (r:Vals vs us)
  (x:InCallC s s.heap.objs.size (bindL (envOfC qual scope s.heap.objs.size f cd).kindOf (ps.zip us) fun _=>none) (cellsFrom (s.heap.objs.size+1) scope.names []) (bindC (envOfC qual scope s.heap.objs.size f cd).kindOf (ps.zip us) fun _=>none) s1):
  Inv (zjv CX P w K mg base N qual scope f cd A outer s H E) [] (zgD N vs) H s1:=by
 have ah:ps.length<=N.length:=by have:=congrArg List.length S.pre;rw[ybF]at this;omega
 obtain⟨h1,tk,rfl,o⟩:=x.done;have d:∀b:Addr,b ∉ (zjv CX P w K mg base N qual scope f cd A outer s H E).ex:=fun b z=>absurd (show b∈([]:List Addr)from z) (by simp)
 refine⟨⟨I.mod,S.kind,rfl,rfl,yag _,fun y z c h1 h2=>?_,fun y g=>?_,fun y c _ h=>?_,fun _=>hd,Around.frames_deeper I.frames,.inr ⟨rfl,rfl⟩,fun b z=>absurd z (d b),I.bs,I.bsz,fun b _ _=>d b,fun b z=>absurd z (d b),I.funs,I.frf⟩,
  rfl,I.bare,Un.kept o,⟨_,x.toInCall.ns,fun i y v h1 h2 C=>?_⟩,fun y c h=>⟨_,x.cell y c h⟩,I.hok.fresh (yag _),fun y c h=>?_,fun p l=>absurd (show p∈([]:Z3)from l) (by simp),I.hok.kept o,?_⟩
 ·exact name_of_addr x.apart (yaN h1) (yaN h2)
 ·have g:scope.names.lookup y=some .cell\/scope.names.lookup y=some .free:=g
  rcases g with g|g
  ·exact zky g
  ·exact absurd rfl (S.nofree _ (yaN g))
 ·exact ybV (x.above y c (yaN h))
 ·have hi:i<vs.length:=by
   unfold zgD at h2
   by_cases hi:i<vs.length
   ·exact hi
   ·rw[yaG (by simpa using hi)]at h2;rw[ybX]at h2
    split at h2<;>cases h2
  have B:vs[i]?=some v:=by
   unfold zgD at h2;rw[yaZ (by simpa using hi),yaw]at h2
   cases e:vs[i]? with
   |none=>rw[e]at h2;cases h2|some a=>rw[e]at h2;cases h2;rfl
  obtain⟨u,m,t⟩:=r.get B
  have l:ps[i]?=some y:=by
   rw[<-S.pre,List.getElem?_take_of_lt (by omega)];exact h1
  have j:ps.Nodup:=by rw[<-S.pre];exact S.nd.sublist (List.take_sublist _ _)
  refine⟨u,t,?_⟩
  rcases S.par y (ybm l)with k|k
  ·exact .inl ⟨k,ziV j l m k⟩
  ·obtain⟨c,e⟩:=zky (n:=s.heap.objs.size+1) k;refine .inr ⟨.inl k,c,e,?_⟩;have q:=x.cell y c e;rw[ziX j l m (by show scope.names.lookup y≠_;rw[k];decide)]at q;exact q
 ·exact I.hok.fresh (ybV (x.above y c (yaN h)))
 ·unfold zgD;show _=N.length;rw[yap,yaf,yaL];omega
def zm9{CX:CXT}{P:Program}{w:World}{K:PySem.W.Frag}{mg:Z6}{base:Heap}{k:Nat}{f:Addr}{name qual:Str}{params:Arguments}{body:List Stmt}{scope:Scope}{dV kV doc pm U ct oc:Value}{an od:Option Addr}
  {a4:Array (Option Value)}{N ps:List Str}{sp:Sp} (lk:K.lookup f=some ⟨oc,od,.func (PySem.W.fnOf name qual params body scope dV kV doc pm an U ct),a4⟩) (a5:PySem.W.codeIn K U qual=true) (S:FnScope N ps scope)
  (len:∀vs H Q E,sp vs H Q E->vs.length=ps.length)
  (a3:∀(A:Around) (outer:List Env) (s:Shared) (H:Hp) (vs:List V) (Q:VK) (E:XK),Room k (A.deeper (envOfC qual scope s.heap.objs.size f U))->sp vs H Q E →
   ∃t,PSs (zjv CX P w K mg base N qual scope f U A outer s H E) body t/\t {nx:=fun _ H'=>Q .non H',rt:=Q} (zgD N vs) H):
  FnOk P w K mg base CX (k+1) f (PySem.W.fnOf name qual params body scope dV kV doc pm an U ct) ps sp:=by
 refine⟨len,fun A outer s H args us vs Q E i g z r d=>?_⟩;have p:=len _ _ _ _ d;have j:K.In s.heap:=g.mod.kin.keeps fun b o e=>(g.bs b o e).1
 have lim:s.heap.NoLimit:=g.mod.nolimit.keeps fun b o e=>(g.bs b o e).1
 have c:∀y∈ps.zip us,scope.names.lookup y.1=some .local\/(scope.names.lookup y.1=some .cell/\((cellsFrom (s.heap.objs.size+1) scope.names []).lookup y.1).isSome=true):=fun⟨n,v⟩ l=>by
  rcases S.par n (List.of_mem_zip l).1 with q|q
  ·exact .inl q
  ·exact .inr ⟨q,PySem.W.cellsFrom_some _ _ _ (.inl q)⟩
 refine codeAny_call_function i.depth (j _ _ lk) rfl S.co S.gen rfl (PySem.W.codeRec_of j a5) (z _ _ _ _ ?_);refine wpAny_newFunctionEnv_cells S.kind c fun env he s1 x=>?_
 subst he;refine⟨lim.keeps x.toInCall.keep,codeAny_func ?_⟩;obtain⟨t,ht,m⟩:=a3 A outer s H vs Q E (i.deeper _) d;have I:Inv (zjv CX P w K mg base N qual scope f U A outer s H E) [] (zgD N vs) H s1:=zmZ S i.hd g p r x;refine ybl (ht [] s1 (zgD N vs) H _ I m) (fun B s' hs=>?_) fun e s' hs=>hs
 have fin:∀{a:St}{H':Hp}{v:V}{u:Value},Inv (zjv CX P w K mg base N qual scope f U A outer s H E) [] a H' s'->zbu v u->Q v H'->CE outer P w H s Q u s':=
  fun {a H' v u} J h q=>⟨v,H',J.os,J.bare,J.base,J.hok,h,q⟩
 cases B with
 |ret u=>
  obtain⟨v,a,H',J,h,q⟩:=hs;exact fin J h q
 |next=>
  obtain⟨a,H',J,q⟩:=hs;exact fin (v:=V.non) (u:=Value.none) J rfl q
 |brk=>
  obtain⟨_,_,_,q⟩:=hs;exact False.elim q
 |cont=>
  obtain⟨_,_,_,q⟩:=hs;exact False.elim q
section
variable{X:Cx}{x:Str}{p pos:Pos}{e:Expr}{es:List Expr}{t:TA}{id T:String}{r:List V->Hp->VK->Prop}
noncomputable def tCB(r:List V->Hp->VK->Prop)(t:TA):TE:=fun σ H Q=>t σ H fun vs H1=>r vs H1 Q
def zbA(hc:zeC X (.builtin id) r)(hg:Gl X x)(hm:X.mg x=none)(U:bootBuiltins x=some (.builtin id))(ha:PA X (e::es) t)(hn:autoParam (x ≠ "__name__") yAR)(J:autoParam ((x==("__debug__":Str))=false) yAR)
  (he:autoParam (starEach (e::es) X.env=(false,eval e X.env)::starEach es X.env) yAW) (ah:autoParam ((backTo pos (starEach es X.env)).any (·.1)=false) yAW):PE X (.Call (.Name x p) (e::es) [] pos) (tCB r t):=by
 intro pins s σ H Q I h;refine ybJ (zfs I hg hm U ?_ hn J);exact PyProof.Rows.callWith_builtin1 (thn (ha pos pins s σ H _ I h) fun us s1 ⟨vs,H1,b,r1,a⟩=>hc pins s1 σ H1 vs us Q b r1 a) he ah
def zeL(hc:zeC X (.type T) r)(hg:Gl X x)(hm:X.mg x=none)(U:bootBuiltins x=some (.type T))(ha:PA X (e::es) t)(hn:autoParam (x ≠ "__name__") yAR)(J:autoParam ((x==("__debug__":Str))=false) yAR)
  (he:autoParam (starEach (e::es) X.env=(false,eval e X.env)::starEach es X.env) yAW) (ah:autoParam ((backTo pos (starEach es X.env)).any (·.1)=false) yAW):PE X (.Call (.Name x p) (e::es) [] pos) (tCB r t):=by
 intro pins s σ H Q I h;refine ybJ (zfs I hg hm U ?_ hn J);exact ya8 (thn (ha pos pins s σ H _ I h) fun us s1 ⟨vs,H1,b,r1,a⟩=>hc pins s1 σ H1 vs us Q b r1 a) he ah
end
end L2
namespace HT
open PySem PyProof.Rows
section
open PySem.SeqAt
open PySem.AutoSeq1 (wpAny_loadPart')
open PySem.MeetsSeq PySem.MeetsSeq2 PySem.MeetsSeq3
end
section
variable{prog:Program}{w:World}{A:Around}{E:Z5}{s:Shared}
def zrT{t b:Addr}{vs I:List Value}{Q:Z5}(ht:IsTup s.heap t vs.toArray)(U:IsTup s.heap b I.toArray)(J:vs≠[])
  (h1:I=[]->Q (.ref t) s) (h2:I≠[]->Q (.ref s.heap.objs.size) {s with heap:=s.heap.push {cls:=.type "tuple",data:=.seq (vs++I).toArray}})
  (hsz:vs.length+I.length<=sizeLine):wpAny (model prog w) A (binaryOp .Add (.ref t) (.ref b)) Q E s:=by
 obtain⟨⟨cls,dd,data,i⟩,h,j,n,hd⟩:=id ht;obtain⟨⟨k,g,data2,c⟩,a,f,n2,d⟩:=id U;simp only at j hd f d;subst j hd f d
 have e:vs.toArray++I.toArray=(vs++I).toArray:=by simp
 by_cases hw:I=[]
 ·exact concat_meets ⟨_,h,rfl⟩ ⟨_,a,rfl⟩ noFill_tuple_add seq_tuple_add ycK ycA (ycs _ _)
   (tuple_addW1 t b vs.toArray I.toArray n n2 dd g i c (by simpa using J) (by simp[hw])) ⟨h,a,h1 hw⟩
 ·refine concat_meets ⟨_,h,rfl⟩ ⟨_,a,rfl⟩ noFill_tuple_add seq_tuple_add ycK ycA (ycs _ _)
   (tuple_addW2 t b vs.toArray I.toArray n n2 dd g i c (by simpa using J) (by simpa using hw) (by rw[yah,yah];exact hsz)) ⟨h,a,?_⟩
  rw[e];exact h2 hw
noncomputable def sIx(n d:Nat):Option Int->Nat
 |none=>d|some v=>if v<0 then(v+(n:Int)).toNat else min v.toNat n
theorem zfT(n d k:Nat):sIx n d (some (k:Int))=min k n:=by
 show(if(k:Int)<0 then((k:Int)+(n:Int)).toNat else min (k:Int).toNat n)=min k n;rw[if_neg (by omega),yaO]
theorem zs8(n d:Nat)(hd:d<=n)(o:Option Int):sIx n d o<=n:=by
 cases o with
 |none=>exact hd|some v=>
  show(if v<0 then(v+(n:Int)).toNat else min v.toNat n)<=n
  by_cases a:v<0
  ·rw[if_pos a];omega
  ·rw[if_neg a];exact Nat.min_le_right _ _
theorem znq(v:Int)(n d:Nat):(if v<0 then max (v+(n:Int)) 0 else min v (n:Int))=((sIx n d (some v):Nat):Int):=by
 show(if v<0 then max (v+(n:Int)) 0 else min v (n:Int))=(((if v<0 then(v+(n:Int)).toNat else min v.toNat n):Nat):Int)
 by_cases a:v<0
 ·simp only[if_pos a];omega
 ·simp only[if_neg a];omega
theorem zlj(lo hi:Option Int)(n:Nat):Builtin.Slice.sliceAdjust lo hi 1 (n:Int)=(((sIx n 0 lo:Nat):Int),((sIx n n hi:Nat):Int)):=by
 have h1:¬ ((1:Int)<0):=by omega
 unfold Builtin.Slice.sliceAdjust;simp only[h1,ybr];refine Prod.ext ?_ ?_
 ·cases lo with
  |none=>rfl|some v=>exact znq v n 0
 ·cases hi with
  |none=>rfl|some v=>exact znq v n n
theorem zkS(i j:Nat):Builtin.Slice.slicePlaces (i:Int) (j:Int) 1=j-i:=by
 unfold Builtin.Slice.slicePlaces
 have h1:(1:Int) > 0:=by omega
 simp only[h1,ycX,Int.ediv_one]
 split<;>omega
def zgR(p:IsPart v o)(h:Q o s):wpAny (model prog w) A (Builtin.Slice.slicePartIndex v) Q E s:=by
 cases p with
 |none=>exact slicePart_none h|int i t=>exact slicePart_int h
def zdA{sl:Addr}{J I:Value}{lo hi:Option Int}{n:Nat}{Q:Int×Int×Nat->Shared->Prop}(hs:s.heap.IsSliceOf sl J I .none)(pl:IsPart J lo)(pu:IsPart I hi)
  (h:Q (((sIx n 0 lo:Nat):Int),1,sIx n n hi-sIx n 0 lo) s):wpAny (model prog w) A (Builtin.Slice.sliceApplied (.ref sl) (pure (n:Int))) Q E s:=by
 obtain⟨os,a,c,b⟩:=id hs;unfold Builtin.Slice.sliceApplied Builtin.Slice.sliceFields;refine yaa (yaa (ybB a b (x:=J) rfl (yaa (ybB a b (x:=I) rfl (yaa (ybB a b (x:=.none) rfl (yae ?_)))))));refine yaa (slicePart_none ?_);show wpAny _ _ (if((1:Int)==0)=true then _ else _) _ _ s;rw[if_neg (by decide)];refine yaa (zgR pl (yaa (zgR pu (yaa (yae ?_)))));show wpAny _ _ (match Builtin.Slice.sliceAdjust lo hi 1 (n:Int)with|(lo,hi)=>pure (lo,(1:Int),Builtin.Slice.slicePlaces lo hi 1)) _ _ s;rw[zlj lo hi n];show wpAny _ _ (pure (((sIx n 0 lo:Nat):Int),(1:Int),Builtin.Slice.slicePlaces ((sIx n 0 lo:Nat):Int) ((sIx n n hi:Nat):Int) 1)) _ _ s;rw[zkS];exact yae h
theorem zoi(xs:Array Value)(i k:Nat):((List.range k).filterMap fun(m:Nat)=>xs[((i:Int)+(m:Int)*1).toNat]?).toArray=((xs.toList.drop i).take k).toArray:=by
 have e:(fun(m:Nat)=>xs[((i:Int)+(m:Int)*1).toNat]?)=fun m=>xs[i+m]?:=by
  funext m
  have:((i:Int)+(m:Int)*1).toNat=i+m:=by omega
  rw[this]
 rw[e];have:=pick_run xs i k;rw[List.filterMap_map]at this;have a:((fun x=>xs[x]?)∘fun x=>i+x)=fun m=>xs[i+m]?:=rfl
 rw[a]at this;rw[this]
theorem zfg{t sl:Addr}{items:Array Value}{J I:Value}{lo hi:Option Int}{Q:Z5}(ht:IsTup s.heap t items)(hs:s.heap.IsSliceOf sl J I .none)(pl:IsPart J lo)(pu:IsPart I hi)
  (hw:¬ (sIx items.size 0 lo=0/\sIx items.size items.size hi=items.size))
  (h:Q (.ref s.heap.objs.size) {s with heap:=s.heap.push {cls:=.type "tuple",data:=.seq ((items.toList.drop (sIx items.size 0 lo)).take (sIx items.size items.size hi-sIx items.size 0 lo)).toArray}})
  (hsz:items.size<=sizeLine):wpAny (model prog w) A (getItem (.ref t) (.ref sl)) Q E s:=by
 have a:sizeOk (.seq ((items.toList.drop (sIx items.size 0 lo)).take (sIx items.size items.size hi-sIx items.size 0 lo)).toArray):=by
  show((items.toList.drop (sIx items.size 0 lo)).take (sIx items.size items.size hi-sIx items.size 0 lo)).toArray.size<=sizeLine;rw[yah,ybF,ycn,ya7];omega
 have j:sIx items.size items.size hi<=items.size:=zs8 _ _ (yag _) hi;obtain⟨os,b,d,f⟩:=id hs;have e:s.TypeIs (.ref sl) "slice":=⟨os,b,d⟩;unfold getItem
 try with_reducible refine ybv ?_
 first|refine yaa (yae ?_)|skip
 refine yaa (wpAny_sequenceKey ht.typeIs (by decide) ?_)
 refine yaa (yaX (name:=Str.ofString "__getitem__") ht.typeIs ya1
  (ya0 ya1 ht.typeIs entry_tuple_getitem ?_ (args_tuple_getitem _ _)))
 show wpAny _ _ (Builtin.Tuple.tupleItemsOf (.ref t) >>= _) _ _ s;refine yaa (tupleItemsOf_ ht ?_);refine yaa (wpAny_typeOf e ?_);rw[if_pos (by decide)];refine yaa (zdA hs pl pu ?_)
 have c:¬ ((((sIx items.size 0 lo:Nat):Int)==0&&(1:Int)==1&&(sIx items.size items.size hi-sIx items.size 0 lo)==items.size)=true):=by
  intro q;rw[yab,yab]at q;have i:((sIx items.size 0 lo:Nat):Int)=0:=eq_of_beq q.1.1;have g:sIx items.size items.size hi-sIx items.size 0 lo=items.size:=eq_of_beq q.2;exact hw ⟨by omega,by omega⟩
 show wpAny _ _ (if(((sIx items.size 0 lo:Nat):Int)==0&&(1:Int)==1&&(sIx items.size items.size hi-sIx items.size 0 lo)==items.size)=true then _ else _) _ _ s;rw[if_neg c,zoi]
 first
  |exact yaa (m:=Builtin.Tuple.tupleExact _) (yaU (yae ⟨_,rfl,yae h⟩) a)
  |exact yaa (m:=Builtin.Tuple.tupleExact _) (yaU (yaa (yae (yae ⟨_,rfl,yae h⟩))) a)
  |exact yaa (yaa (m:=Builtin.Tuple.tupleExact _) (yaU (yae (yae ⟨_,rfl,yae h⟩)) a))
  |exact yaa (yaa (m:=Builtin.Tuple.tupleExact _) (yaU (yae ⟨_,rfl,yae h⟩) a))
end
end HT
namespace L2
open PySem PySem.Spec PyProof.Rows
noncomputable abbrev TO:=St->Hp->(Option Int->Hp->Prop)->Prop
noncomputable def PO(X:Cx)(e:Option Expr)(t:TO):Prop:=
 ∀(pins:Z3) (s:Shared) (σ:St) (H:Hp) (Q:Option Int->Hp->Prop),Inv X pins σ H s->t σ H Q →
  wpAny (model X.prog X.w) X.A (evalPart e X.env) (fun u s'=>∃o H',Inv X pins σ H' s'/\IsPart u o/\Q o H') X.xe s
noncomputable def zlG:TO:=fun _ H Q=>Q none H
noncomputable def zsn(t:TE):TO:=fun σ H Q=>t σ H fun x H1=>∃i,x=.int i/\Q (some i) H1
section
variable{X:Cx}{e:Expr}{te:TE}{lo hi:Option Expr}{tl th:TO}{pos p2:Pos}
def zqR:PO X none zlG:=by
 intro pins s σ H Q I h;rw[evalPart_none];exact yae ⟨none,H,I,.none,h⟩
def zqQ(h:PE X e te):PO X (some e) (zsn te):=by
 intro pins s σ H Q I b;rw[evalPart_some];refine thn (h pins s σ H _ I b) fun u s1 ⟨x,H1,c,r1,a⟩=>?_
 obtain⟨i,rfl,q⟩:=a;obtain⟨t,rfl⟩:=r1;exact⟨some i,H1,c,.int i t,q⟩
noncomputable def SlR(X:Cx)(r:V->Option Int->Option Int->Hp->VK->Prop):Prop:=
 ∀(pins:Z3) (s:Shared) (σ:St) (H:Hp) (x:V) (v b a:Value) (lo hi:Option Int) (c:Addr) (Q:VK),Inv X pins σ H s->zbu x v->s.heap.IsSliceOf c b a .none->IsPart b lo->IsPart a hi->r x lo hi H Q →
  ∃T id,typeLookup (.type T) "__getitem__"=pure (some (.builtin id))/\s.TypeIs v T/\wpAny (model X.prog X.w) X.A (getItem v (.ref c)) (EP X pins σ Q) X.xe s
noncomputable def tSl(r:V->Option Int->Option Int->Hp->VK->Prop)(te:TE)(tl th:TO):TE:=fun σ H Q=>te σ H fun x H1=>tl σ H1 fun l H2=>th σ H2 fun u a=>r x l u a Q
def zon(U:SlR X r)(he:PE X e te)(hl:PO X lo tl)(J:PO X hi th):PE X (.Subscript e (.Slice lo hi none p2) pos) (tSl r te tl th):=by
 intro pins s σ H Q I h;refine Subscript_ (thn (he pins s σ H _ I h) fun v s1 ⟨x,H1,t,r1,j⟩=>?_);refine wpAny_Slice (thn (hl pins s1 σ H1 _ t j) fun d s2 ⟨l,H2,p,pl,i⟩=>thn (J pins s2 σ H2 _ p i) fun c a ⟨u,f,o,pu,g⟩=>?_);rw[evalPart_none];refine yae ?_;have n:Inv X pins σ f {a with heap:=a.heap.push {cls:=.type "slice",data:=.fields #[d,c,.none]}}:=o.kept (t':=a.toks) fun b ob q=>yac _ q
 obtain⟨T,id,m,ht,k⟩:=U pins {a with heap:=a.heap.push {cls:=.type "slice",data:=.fields #[d,c,.none]}} σ f x v d c l u a.heap.objs.size Q n r1 (Heap.IsSliceOf.new ..) pl pu g;show wpAny (model X.prog X.w) X.A (subscriptTail e (.Slice lo hi none p2) v (.ref a.heap.objs.size)) (EP X pins σ Q) X.xe {a with heap:=a.heap.push {cls:=.type "slice",data:=.fields #[d,c,.none]}};exact tail_any (ops:=[.ref a.heap.objs.size,v]) ht m k (by with_unfolding_all rfl)
def zpW(xs:List V)(lo hi:Option Int):List V:=(xs.drop (HT.sIx xs.length 0 lo)).take (HT.sIx xs.length xs.length hi-HT.sIx xs.length 0 lo)
theorem zgx(xs:List V)(lo hi:Option Int):(zpW xs lo hi).length<=xs.length:=by
 unfold zpW;rw[ybF,ycn];omega
noncomputable def zzl(K:PySem.W.Frag):V->Option Int->Option Int->Hp->VK->Prop:=fun x lo hi H Q=>∃a xs,x=.ref a/\SqT K H a xs ∧
 ¬ (HT.sIx xs.length 0 lo=0/\HT.sIx xs.length xs.length hi=xs.length)/\∀p,H p=none->Q (.ref p) (upd H p (.tup (zpW xs lo hi)))
def zsO:SlR X (zzl X.K):=by
 intro pins s σ H x v j i lo hi k Q I e hs pl pu h;obtain⟨a,xs,rfl,f,g,q⟩:=h;cases e;obtain⟨c,r,ht,d⟩:=I.tuple f
 have hlen:c.toArray.size=xs.length:=by rw[yah];exact r.length.symm
 refine⟨"tuple",_,ya1.lookup,ht.typeIs,?_⟩;refine HT.zfg ht hs pl pu (by rw[hlen];exact g) ?_ (by rw[hlen];exact d);rw[hlen];refine⟨.ref s.heap.objs.size,_,I.laid (t':=s.toks) (o:=.tup (zpW xs lo hi)) (fun b ob q=>yac _ q) (yag _) ?_,rfl,q _ (I.hok.fresh (yag _))⟩;exact⟨yak (zgx xs lo hi) d,_,(r.drop (HT.sIx xs.length 0 lo)).take (HT.sIx xs.length xs.length hi-HT.sIx xs.length 0 lo),IsTup.new _ _⟩
noncomputable def zvJ(K:PySem.W.Frag):R2:=fun x y H Q=>∃a b xs ys,x=.ref a/\y=.ref b/\SqT K H a xs/\SqT K H b ys/\xs≠[]/\xs.length+ys.length<=sizeLine ∧
 (ys=[]->Q (.ref a) H)/\(ys≠[]->∀p,H p=none->Q (.ref p) (upd H p (.tup (xs++ys))))
def Vals.nil_iff(r:Vals xs us):us=[]↔xs=[]:=by
 cases r with
 |nil=>simp|cons _ _=>simp
def zrb:OpR X (binaryOp .Add) (zvJ X.K):=by
 intro pins s σ H x y v u Q I g f h;obtain⟨a,b,xs,ys,rfl,rfl,n,m,l,e,j,i⟩:=h;cases g;cases f;obtain⟨k,r1,p1,_⟩:=I.tuple n;obtain⟨d,c,p2,_⟩:=I.tuple m;refine HT.zrT p1 p2 (fun z=>l (r1.nil_iff.mp z)) (fun z=>⟨.ref a,H,I,rfl,j (c.nil_iff.mp z)⟩) (fun z=>?_) (by rw[<-r1.length,<-c.length];exact e);refine⟨.ref s.heap.objs.size,_,I.laid (t':=s.toks) (o:=.tup (xs++ys)) (fun b ob q=>yac _ q) (yag _) ?_,rfl,i (fun w=>z (c.nil_iff.mpr w)) _ (I.hok.fresh (yag _))⟩;exact⟨by rw[yap];exact e,_,r1.append c,IsTup.new _ _⟩
end
noncomputable def ixN(n:Nat)(i:Int):Option Nat:=if 0<=i then(if i<n then some i.toNat else none)else if -(n:Int)<=i then some (i+n).toNat else none
def atI{α:Type}(xs:List α)(i:Int):Option α:=(ixN xs.length i).bind fun j=>xs[j]?
theorem zrv(h:ixN n i=some j):seqIndex? i n=some j/\j<n/\-(n:Int)<=i/\i<n:=by
 unfold ixN at h
 by_cases h0:0<=i
 ·rw[if_pos h0]at h
  by_cases h1:i<n
  ·rw[if_pos h1]at h;have e:i.toNat=j:=Option.some.inj h;exact⟨by rw[seqIndex_of h0 h1,e],by omega,by omega,h1⟩
  ·rw[if_neg h1]at h;cases h
 ·rw[if_neg h0]at h
  by_cases h1:-(n:Int)<=i
  ·rw[if_pos h1]at h;have e:(i+n).toNat=j:=Option.some.inj h;exact⟨by rw[seqIndex_neg (by omega) h1,e],by omega,h1,by omega⟩
  ·rw[if_neg h1]at h;cases h
def znx{α:Type}{xs:List α}{v:α}(h:atI xs i=some v):∃j,seqIndex? i xs.length=some j/\xs[j]?=some v/\j<xs.length/\-(xs.length:Int)<=i/\i<xs.length:=by
 unfold atI at h
 cases e:ixN xs.length i with
 |none=>rw[e]at h;cases h|some j=>
  rw[e]at h;obtain⟨h1,h2,a,h4⟩:=zrv e;exact⟨j,h1,h,h2,a,h4⟩
noncomputable def zhV(b:Expr):Prop:=∀o i,subscripted b false o i=operate [o,i] (getItem o i)
noncomputable def IxR(X:Cx)(r:R2):Prop:=
 ∀(value slice:Expr) (pins:Z3) (s:Shared) (σ:St) (H:Hp) (x y:V) (v u:Value) (Q:VK),Inv X pins σ H s->zbu x v->zbu y u->r x y H Q →
  subscripted slice false v u=operate [v,u] (getItem v u)->wpAny (model X.prog X.w) X.A (subscriptTail value slice v u) (EP X pins σ Q) X.xe s
noncomputable def MtR(X:Cx)(id:String)(r:V->List V->Hp->VK->Prop):Prop:=
 ∀(pins:Z3) (s:Shared) (σ:St) (H:Hp) (x:V) (xs:List V) (v:Value) (us:List Value) (Q:VK),Inv X pins σ H s->zbu x v->Vals xs us->r x xs H Q →
  wpAny (model X.prog X.w) X.A (call (.builtin id) (v::us)) (EP X pins σ Q) X.xe s
section
variable{X:Cx}{a b:Expr}{ta tb:TE}{pos:Pos}
def ztA(J:IxR X r)(ha:PE X a ta)(U:PE X b tb)(hs:zhV b):PE X (.Subscript a b pos) (tOp r ta tb):=by
 intro pins s σ H Q I h;exact Subscript_ (zwB ha U I h fun v u s2 x y H2 e d c q=>J a b pins s2 σ H2 x y v u Q e d c q (hs _ _))
noncomputable def zzq(K:PySem.W.Frag):R2:=fun x y H Q=>∃p xs i v,x=.ref p/\y=.int i/\SqL K H p xs/\atI xs i=some v/\Q v H
noncomputable def zzp(K:PySem.W.Frag):R2:=fun x y H Q=>∃p xs i v,x=.ref p/\y=.int i/\SqT K H p xs/\atI xs i=some v/\Q v H
theorem zmV:IxR X (zzq X.K):=by
 intro value slice pins s σ H x y v u Q I f e h hs;obtain⟨p,xs,i,z,rfl,rfl,g,he,q⟩:=h;cases f;obtain⟨t,rfl⟩:=e;obtain⟨b,r,pl,m⟩:=I.list g;obtain⟨j,h1,h2,o,h4,l⟩:=znx he;obtain⟨w,d,a⟩:=r.get h2;have k:=r.length;have n:=zkd;have fin:EP X pins σ Q w s:=⟨z,H,I,a,q⟩
 by_cases h0:0<=i
 ·have c:i.toNat=j:=by
   rw[seqIndex_of h0 l]at h1;exact Option.some.inj h1
  exact item_listR pl.isList h0 (by omega) (by rw[c];simpa using d) fin hs
 ·have c:(i+(b.toArray.size:Int)).toNat=j:=by
   rw[seqIndex_neg (by omega) h4]at h1;rw[yah,<-k];exact Option.some.inj h1
  exact ycL (x:=w) pl.isList.typeIs slot_list_getitem.lookup
   (wpAny_getItem_list_neg (Q:=fun r s'=>r=w/\EP X pins σ Q r s') pl.isList (by omega) (by rw[yah]<;>omega) (by omega) (by rw[c];simpa using d) ⟨rfl,fin⟩) hs
theorem zum:IxR X (zzp X.K):=by
 intro value slice pins s σ H x y v u Q I c b h hs;obtain⟨p,xs,i,z,rfl,rfl,e,he,q⟩:=h;cases c;obtain⟨t,rfl⟩:=b;obtain⟨d,r,pl,k⟩:=I.tuple e;obtain⟨j,h1,h2,n,h4,m⟩:=znx he;obtain⟨w,g,a⟩:=r.get h2;have f:=r.length;have l:=zkd;have fin:EP X pins σ Q w s:=⟨z,H,I,a,q⟩
 exact ycL (x:=w) pl.typeIs slot_tuple_getitem.lookup
  (getItem_tuple (j:=j) (Q:=fun r s'=>r=w/\EP X pins σ Q r s') pl (by omega) (by omega) (by rw[yah,<-f];exact h1) (by simpa using g) ⟨rfl,fin⟩) hs
theorem zia(lo hi:Option Int)(n:Nat):(sliceBounds lo hi none n).1=((HT.sIx n 0 lo:Nat):Int)/\(sliceBounds lo hi none n).2.1=((HT.sIx n n hi:Nat):Int)/\(sliceBounds lo hi none n).2.2=1:=by
 refine⟨?_,?_,rfl⟩
 ·cases lo with
  |none=>simp[sliceBounds,HT.sIx]|some i=>
   simp only[sliceBounds,HT.sIx,Option.getD_none,show(1:Int) > 0 by decide,ycX]
   by_cases h:i<0
   ·simp only[h,ycX]<;>omega
   ·simp only[h,ybr]<;>omega
 ·cases hi with
  |none=>simp[sliceBounds,HT.sIx]|some i=>
   simp only[sliceBounds,HT.sIx,Option.getD_none,show(1:Int) > 0 by decide,ycX]
   by_cases h:i<0
   ·simp only[h,ycX]<;>omega
   ·simp only[h,ybr]<;>omega
def zhk(I:List Value)(lo hi:Option Int):slicePick I.toArray lo hi none=((I.drop (HT.sIx I.length 0 lo)).take (HT.sIx I.length I.length hi-HT.sIx I.length 0 lo)).toArray:=by
 obtain⟨h1,h2,a⟩:=zia lo hi I.toArray.size;unfold slicePick;rw[h1,h2,a]
 simp only[sliceRange_one,pick_run,yah]<;>rfl
noncomputable def zzm(K:PySem.W.Frag):V->Option Int->Option Int->Hp->VK->Prop:=fun x lo hi H Q=>∃a xs,x=.ref a/\SqL K H a xs/\∀p,H p=none->Q (.ref p) (upd H p (.lst (zpW xs lo hi)))
theorem zqs:SlR X (zzm X.K):=by
 intro pins s σ H x v i g lo hi j Q I c hs pl pu h;obtain⟨a,xs,rfl,f,q⟩:=h;cases c;obtain⟨d,r,ht,e⟩:=I.list f;have hlen:=r.length;refine⟨"list",_,slot_list_getitem.lookup,ht.isList.typeIs,?_⟩;refine wpAny_getItem_list_slice ht.isList hs pl pu .none (by simp) ?_ (by rw[yah]<;>omega);rw[zhk,<-hlen];refine⟨.ref s.heap.objs.size,_,I.laid (t':=s.toks) (o:=.lst (zpW xs lo hi)) (fun b ob q=>yac _ q) (yag _) ?_,rfl,q _ (I.hok.fresh (yag _))⟩;exact⟨yak (zgx xs lo hi) e,_,0,(r.drop (HT.sIx xs.length 0 lo)).take (HT.sIx xs.length xs.length hi-HT.sIx xs.length 0 lo),yaq _ rfl⟩
theorem zcP:zeC X (.builtin "len") (fun xs H Q=>∃p ys,xs=[.ref p]/\(SqL X.K H p ys\/SqT X.K H p ys)/\Q (.int ys.length) H):=by
 intro pins s σ H xs us Q I r h;obtain⟨p,ys,rfl,a,q⟩:=h;obtain⟨u,rfl,c⟩:=zh2 r;cases c;have e:=zkd
 rcases a with a|a
 ·obtain⟨b,r',pl,d⟩:=I.list a;have hlen:=r'.length;exact Calls.call_len_list pl.isList (by simp only[yah]<;>omega) ⟨.int ys.length,H,I.tok _,⟨s.toks+1,by rw[yah,hlen]⟩,q⟩
 ·obtain⟨b,r',pl,d⟩:=I.tuple a;have hlen:=r'.length;exact len_tuple pl (by simp only[yah]<;>omega) ⟨.int ys.length,H,I.tok _,⟨s.toks+1,by rw[yah,hlen]⟩,q⟩
theorem ziQ:zeC X (.builtin "len") (fun xs H Q=>∃z,xs=[.str z]/\z.length<=sizeLine/\Q (.int z.length) H):=by
 intro pins s σ H xs us Q I r h;obtain⟨z,rfl,a,q⟩:=h;obtain⟨u,rfl,t,rfl⟩:=zh2 r;have b:=zkd;exact len_str (by omega) ⟨.int z.length,H,I.tok _,⟨_,rfl⟩,q⟩
def zfy:zeC X (.type "list") (fun xs H Q=>∃p ys,xs=[.ref p]/\(SqL X.K H p ys\/SqT X.K H p ys)/\∀l,H l=none->Q (.ref l) (upd H l (.lst ys))):=by
 intro pins s σ H xs us Q I r h;obtain⟨p,ys,rfl,d,q⟩:=h;obtain⟨u,rfl,i⟩:=zh2 r;cases i
 have fin:∀(a:List Value),Vals ys a->ys.length<=sizeLine->∀(h':Heap) (c':Nat),(∀b o',s.heap.get? b=some o'->h'.get? b=some o') →
   h'.get? s.heap.objs.size=some {cls:=.type "list",dict:=none,data:=.seq a.toArray c',slots:=#[]}->EP X pins σ Q (.ref s.heap.objs.size) {s with heap:=h'}:=fun a r' c h' c' kp e=>
  ⟨.ref s.heap.objs.size,_,I.laid (t':=s.toks) kp (yag _) (show zbJ X.prog X.w _ h' _ (.lst ys)from⟨c,a,c',r',e⟩),rfl,q _ (I.hok.fresh (yag _))⟩
 rcases d with d|d
 ·obtain⟨a,r',pl,c⟩:=I.list d;have hlen:=r'.length;obtain⟨o,f,g,n,hd⟩:=pl.isList;exact call_list_seq p (.inl rfl) f g hd (fun h' c' kp e=>fin a r' c h' c' kp e) (by simp only[yah]<;>omega)
 ·obtain⟨a,r',pl,c⟩:=I.tuple d;have hlen:=r'.length;obtain⟨o,f,g,n,hd⟩:=pl;exact call_list_seq p (.inr rfl) f g hd (fun h' c' kp e=>fin a r' c h' c' kp e) (by simp only[yah]<;>omega)
theorem zdw:zeC X (.type "tuple") (fun xs H Q=>∃p ys,xs=[.ref p]/\((SqL X.K H p ys/\∀l,H l=none->Q (.ref l) (upd H l (.tup ys)))\/(SqT X.K H p ys/\Q (.ref p) H))):=by
 intro pins s σ H xs us Q I r h;obtain⟨p,ys,rfl,h⟩:=h;obtain⟨u,rfl,g⟩:=zh2 r;cases g
 rcases h with⟨c,q⟩|⟨c,q⟩
 ·obtain⟨a,r',pl,d⟩:=I.list c;have hlen:=r'.length;refine call_tuple_list pl.isList (fun h' kp=>?_) (by simp only[yah]<;>omega);have f:Inv X pins σ H {s with heap:=h'}:=I.kept (t':=s.toks) kp
  have i:Inv X pins σ (upd H h'.objs.size (.tup ys)) {s with heap:=h'.push {cls:=.type "tuple",data:=.seq a.toArray}}:=
   f.laid (t':=s.toks) (fun b o e=>yac _ e) (yag _) (show zbJ X.prog X.w _ _ _ (.tup ys)from⟨d,a,r',IsTup.new _ _⟩)
  exact⟨.ref h'.objs.size,_,i,rfl,q _ (f.hok.fresh (yag _))⟩
 ·obtain⟨a,r',pl,d⟩:=I.tuple c;exact call_tuple_same pl ⟨.ref p,H,I,rfl,q⟩
noncomputable def tyV(K:PySem.W.Frag)(T:String)(x:V)(H:Hp):Prop:=match x with
 |.str _=>T="str"|.int _=>T="int"|.ref p=>(T="list" /\ ∃xs,SqL K H p xs)\/(T="tuple" /\ ∃o,K.lookup p=some o/\o.cls=.type "tuple" /\ o.dict=none) ∨
   (T="dict" /\ ((∃a,H p=some (.dK a))\/∃a,H p=some (.dT a)))\/(T="set" /\ ∃S n,H p=some (.set S n))
 |_=>False
def zpg(I:Inv X pins σ H s)(r:zbu x v)(ty:tyV X.K T x H):
  s.TypeIs v T/\∀a,v=.ref a->∃ob,s.heap.get? a=some ob/\ob.dict=none:=by
 cases x with
 |str z=>
  obtain⟨t,rfl⟩:=r;cases (show T="str"from ty);exact⟨typeIs_str s z t,fun _ e=>nomatch e⟩
 |int i=>
  obtain⟨t,rfl⟩:=r;cases (show T="int"from ty);exact⟨yc3 s i t,fun _ e=>nomatch e⟩
 |ref p=>
  cases r
  rcases ty with⟨rfl,xs,h⟩|⟨rfl,o,b,j,hd⟩|⟨rfl,b⟩|⟨rfl,S,n,b⟩
  ·obtain⟨g,_,pl,_⟩:=I.list h;refine⟨pl.isList.typeIs,fun a e=>?_⟩;cases e;obtain⟨o,n,e,c,hd,_⟩:=pl;exact⟨o,e,hd⟩
  ·refine⟨⟨o,I.kIn p o b,j⟩,fun a e=>?_⟩;cases e;exact⟨o,I.kIn _ o b,hd⟩
  ·have z:∃o,s.heap.get? p=some o/\o.ExactDict:=by
    rcases b with⟨d,b⟩|⟨d,b⟩
    ·obtain⟨_,_,_,_,o,_,_,e,ex,_⟩:=I.hok p _ b;exact⟨o,e,ex⟩
    ·obtain⟨_,_,_,_,o,_,_,e,ex,_⟩:=I.hok p _ b;exact⟨o,e,ex⟩
   obtain⟨o,e,ex⟩:=z;refine⟨⟨o,e,ex.1⟩,fun a f=>?_⟩;cases f;exact⟨o,e,ex.2.1⟩
  ·obtain⟨o,_,_,_,e,ex,_⟩:=I.hok p _ b;refine⟨⟨o,e,ex.1⟩,fun a f=>?_⟩;cases f;exact⟨o,e,ex.2.1⟩
 |_=>exact False.elim ty
noncomputable def zze(K:PySem.W.Frag)(T:String)(r:V->List V->Hp->VK->Prop)(to:TE):TE:=fun σ H Q=>to σ H fun x H1=>tyV K T x H1/\r x [] H1 Q
noncomputable def tBM(K:PySem.W.Frag)(T:String)(r:V->List V->Hp->VK->Prop)(to:TE)(t:TA):TE:=fun σ H Q=>to σ H fun x H1=>tyV K T x H1/\t σ H1 fun xs H2=>r x xs H2 Q
variable{o e:Expr}{es:List Expr}{to:TE}{t:TA}{name:Str}{apos cpos:Pos}{T id:String}{r:V->List V->Hp->VK->Prop}
def zmu(U:PlainAttrs T)(slot:Slot T name id)(J:typeOf (.builtin id)=pure (.type "method_descriptor"))(hm:MtR X id r)(ho:PE X o to)
  (ae:autoParam (attributeBase o name X.env (eval o X.env)=eval o X.env) yAW) (aa:autoParam ((apos.endLine==cpos.line)=true) yAW):PE X (.Call (.Attribute o name apos) [] [] cpos) (zze X.K T r to):=by
 intro pins s σ H Q I h;refine wpAny_Call_method0_late ae aa (thn (ho pins s σ H _ I h) fun v s1 ⟨x,H1,a,r1,ty,b⟩=>?_);obtain⟨h1,h2⟩:=zpg a r1 ty;exact⟨T,id,U,slot,J,h1,h2,Calls.callWith_builtin rfl (PySem.evalArgs_none (hm pins s1 σ H1 x [] v [] Q a r1 .nil b))⟩
def zkT(U:PlainAttrs T)(slot:Slot T name id)(J:typeOf (.builtin id)=pure (.type "method_descriptor"))(hm:MtR X id r)(ho:PE X o to)(ha:PA X (e::es) t)
  (ae:autoParam (attributeBase o name X.env (eval o X.env)=eval o X.env) yAW)
  (hfew:autoParam (((backTo cpos (starEach (e::es) X.env)).all (fun x=>!x.1)&&(backToKw cpos (keywordEach [] X.env)).all (fun x=>x.1.isSome)
   && decide ((e::es).length+([]:List Keyword).length+(if([]:List Keyword).isEmpty then 0 else 1)<30))=true) yAW)
  (aa:autoParam ((apos.endLine==cpos.line)=true) yAW) (hs:autoParam (starEach (e::es) X.env=(false,eval e X.env)::starEach es X.env) yAW) (aj:autoParam ((backTo cpos (starEach es X.env)).any (·.1)=false) yAW):
  PE X (.Call (.Attribute o name apos) (e::es) [] cpos) (tBM X.K T r to t):=by
 intro pins s σ H Q I h;refine wpAny_Call_method_late ae hfew aa rfl (thn (ho pins s σ H _ I h) fun v s1 ⟨x,H1,b,r1,ty,f⟩=>?_);obtain⟨h1,h2⟩:=zpg b r1 ty;refine⟨T,id,U,slot,J,h1,h2,?_⟩;have a:=ha cpos pins s1 σ H1 _ b f;rw[hs]at a ⊢;refine Calls.callWith_builtin (by show(false||(backTo cpos (starEach es X.env)).any (·.1))=false;rw[aj]<;>rfl) (Calls.evalArgs_plain ?_);exact thn a fun us s2 ⟨vs,H2,g,c,d⟩=>hm pins s2 σ H2 x vs v us Q g r1 c d
end
noncomputable def MtM(X:Cx)(id:String)(r:V->List V->Hp->VK->Prop):Prop:=
 ∀(pins:Z3) (s:Shared) (σ:St) (H:Hp) (x:V) (xs:List V) (v:Value) (us:List Value) (Q:VK),Inv X pins σ H s->zbu x v->Vals xs us->r x xs H Q →
  wpAny (model X.prog X.w) X.A (call (.builtin id) (v::us)) (EP X pins σ Q) X.xe s
theorem Vals.one:∀{x:V}{us:List Value},Vals [x] us->∃u,us=[u]/\zbu x u
 |_,_,.cons r .nil=>⟨_,rfl,r⟩
theorem Vals.zero:∀{us:List Value},Vals [] us->us=[]
 |_,.nil=>rfl
theorem Vals.dropLast(h:Vals xs us):Vals xs.dropLast us.dropLast:=by
 induction h with
 |nil=>exact .nil|cons r t a=>
  cases t with
  |nil=>exact .nil|cons q t'=>exact .cons r a
theorem Vals.reverse{xs:List V}{us:List Value}(h:Vals xs us):Vals xs.reverse us.reverse:=by
 induction h with
 |nil=>exact .nil|cons r t a=>rw[List.reverse_cons,List.reverse_cons];exact Vals.append a (.cons r .nil)
theorem Vals.rep(h:Vals xs us):∀k:Nat,Vals (List.replicate k xs).flatten (List.replicate k us).flatten
 |0=>.nil|k+1=>by
  rw[yba,yba,ybx,ybx];exact Vals.append h (Vals.rep h k)
def zk6{α:Type}(l:List α):l.eraseIdx (l.length-1)=l.dropLast:=by
 induction l with
 |nil=>rfl|cons a r c=>
  cases r with
  |nil=>rfl|cons b r=>
   have e:(a::b::r).length-1=((b::r).length-1)+1:=by
    have h1:(a::b::r).length=r.length+2:=rfl;have h2:(b::r).length=r.length+1:=rfl;omega
   rw[e,List.eraseIdx_cons_succ,c]
   all_goals rfl
theorem zgq(I:List Value):∀(k:Nat) (acc:List Value),
  List.foldl (fun x1 x2=>x1++x2) acc.toArray (List.replicate k I.toArray)=(acc++(List.replicate k I).flatten).toArray
 |0,acc=>by simp
 |k+1,acc=>by
  have e:acc.toArray++I.toArray=(acc++I).toArray:=by simp
  have a:(acc++I)++(List.replicate k I).flatten=acc++(List.replicate (k+1) I).flatten:=by
   rw[yba,ybx,ycf]
  rw[<-a,<-zgq I k (acc++I),<-e,yba,List.foldl_cons]
section
variable{X:Cx}{pins:Z3}{σ:St}{H:Hp}{s:Shared}{l b:Addr}{xs ys zs:List V}
def Inv.lset{J ai:List Value}{n:Nat}{f:Array Value->Array Value}{t':Nat}(I:Inv X pins σ H s)(hH:H l=some (.lst xs))
  (e:s.heap.get? l=some {cls:=.type "list",data:=.seq J.toArray n}) (hf:f J.toArray=ai.toArray) (hv:Vals ys ai) (U:ys.length<=sizeLine):
  Inv X pins σ (upd H l (.lst ys)) {s with heap:=s.heap.update l (Obj.mapSeq f),toks:=t'}:=by
 have q:=PySem.IsL.update e f;rw[hf]at q;refine I.write (x:=l) (e:=l) (by rw[hH];exact trivial) (.inl rfl) (fun c u b a=>(Heap.get?_update_other s.heap (Obj.mapSeq f) (Ne.symm b)).trans a) ⟨_,q⟩ ?_;exact⟨U,ai,_,hv,q⟩
def Inv.lnew(I:Inv X pins σ H s)(hv:Vals ys J)(U:ys.length<=sizeLine):
  Inv X pins σ (upd H s.heap.objs.size (.lst ys)) {s with heap:=s.heap.push {cls:=.type "list",data:=.seq J.toArray},toks:=t'}:=
 I.laid (fun _ _ q=>yac _ q) (yag _) ⟨U,J,0,hv,yaq _ rfl⟩
theorem Inv.fresh(I:Inv X pins σ H s):H s.heap.objs.size=none:=I.hok.fresh (yag _)
def Inv.lstM(I:Inv X pins σ H s)(U:H l=some (.lst xs)):xs.length<=sizeLine/\∃(J:List Value) (n:Nat),Vals xs J/\xs.length=J.length/\s.heap.get? l=some {cls:=.type "list",data:=.seq J.toArray n}:=by
 obtain⟨z,J,n,r,e⟩:=I.hok l _ U;exact⟨z,J,n,r,r.length,e⟩
theorem zj8(h:n<=sizeLine):Builtin.List.listTooLong n=false:=by
 unfold Builtin.List.listTooLong;exact yaH (by omega)
end
section
variable{X:Cx}
noncomputable def zjd:V->List V->Hp->VK->Prop:=fun x vs H Q=>∃l xs y,x=.ref l/\vs=[y]/\H l=some (.lst xs)/\xs.length<sizeLine/\Q .non (upd H l (.lst (xs++[y])))
theorem zdR:MtM X "list.append" zjd:=by
 intro pins s σ H x vs v us Q I c d h;obtain⟨l,xs,y,rfl,rfl,b,g,q⟩:=h;cases c;obtain⟨u,rfl,f⟩:=d.one;obtain⟨z,a,n,r,i,e⟩:=I.lstM b;refine ycO F.slot_list_append ⟨_,e,rfl⟩ F.entry_list_append (F.args_list_append_2 _ _) (PySem.list_append l a.toArray n u (by rw[yah];omega)) ⟨e,?_⟩;refine⟨.non,_,I.lset (ai:=a++[u]) b e (by simp) (r.append (.cons f .nil)) ?_,rfl,q⟩;rw[yap,ybb];omega
noncomputable def zqM:V->List V->Hp->VK->Prop:=fun x vs H Q=>∃l b xs zs,x=.ref l/\vs=[.ref b]/\H l=some (.lst xs)/\H b=some (.lst zs)/\xs.length+zs.length<=sizeLine/\Q .non (upd H l (.lst (xs++zs)))
theorem zmH:MtM X "list.extend" zqM:=by
 intro pins s σ H x vs v us Q I g i h;obtain⟨l,b,xs,zs,rfl,rfl,f,o,w,q⟩:=h;cases g;obtain⟨u,rfl,j⟩:=i.one;cases j;obtain⟨z,c,n,r,y,e⟩:=I.lstM f;obtain⟨t,a,n2,k,m,p⟩:=I.lstM o
 have hsz:c.toArray.size+a.toArray.size<=sizeLine:=by rw[yah,yah];omega
 have d:¬ (!c.toArray.isEmpty&&Builtin.List.listTooLong (c.toArray.size+a.toArray.size))=true:=by
  rw[zj8 hsz,Bool.and_false];exact yaS
 refine ycO F.slot_list_extend ⟨_,e,rfl⟩ F.entry_list_extend (F.args_list_extend_2 _ _)
  (AutoSeq1.list_extend_list_list_0 l c.toArray n b a.toArray n2 d (by rw[yah];omega) (by omega)) ⟨e,p,?_⟩
 refine⟨.non,_,I.lset (ai:=c++a) f e (by simp) (r.append k) ?_,rfl,q⟩;rw[yap];omega
noncomputable def zzo:V->List V->Hp->VK->Prop:=fun x vs H Q=>∃l xs y,x=.ref l/\vs=[]/\H l=some (.lst xs)/\xs[xs.length-1]?=some y/\Q y (upd H l (.lst xs.dropLast))
theorem zpG:MtM X "list.pop" zzo:=by
 intro pins s σ H x vs v us Q I f g h;obtain⟨l,xs,y,rfl,rfl,d,j,q⟩:=h;cases f;have c:=g.zero;subst c;obtain⟨z,a,n,r,m,e⟩:=I.lstM d;obtain⟨u,k,i⟩:=r.get j
 have b:a.toArray[a.toArray.size-1]?=some u:=by
  show a.toArray[a.length-1]?=some u;rw[<-ycS,<-m];exact k
 refine ycO F.slot_list_pop ⟨_,e,rfl⟩ F.entry_list_pop (F.args_list_pop_1 _) (MeetsSeq.list_pop_last l a.toArray n u b (by rw[yah];omega)) ⟨e,?_⟩;refine⟨y,_,I.lset (ai:=a.dropLast) d e ?_ r.dropLast ?_,i,q⟩
 ·show a.toArray.eraseIdxIfInBounds (a.toArray.size-1)=a.dropLast.toArray;rw[yah,List.eraseIdxIfInBounds_toArray,zk6]
 ·rw[ycZ];omega
noncomputable def zoa:V->List V->Hp->VK->Prop:=fun x vs H Q=>∃l xs,x=.ref l/\vs=[]/\H l=some (.lst xs)/\Q .non (upd H l (.lst xs.reverse))
def zkX:MtM X "list.reverse" zoa:=by
 intro pins s σ H x vs v us Q I d f h;obtain⟨l,xs,rfl,rfl,c,q⟩:=h;cases d;have b:=f.zero;subst b;obtain⟨z,a,n,r,g,e⟩:=I.lstM c;refine ycO F.slot_list_reverse ⟨_,e,rfl⟩ F.entry_list_reverse (F.args_list_reverse_1 _) (AutoSeq1.list_reverse_list_0 l a.toArray n (by rw[yah];omega)) ⟨e,?_⟩;refine⟨.non,_,I.lset (ai:=a.reverse) c e (by simp) r.reverse ?_,rfl,q⟩;rw[List.length_reverse];omega
noncomputable def zzr:R2:=fun x y H Q=>∃l b xs zs,x=.ref l/\y=.ref b/\H l=some (.lst xs)/\H b=some (.lst zs)/\xs.length+zs.length<=sizeLine/\∀p,H p=none->Q (.ref p) (upd H p (.lst (xs++zs)))
theorem ztL:OpR X (binaryOp .Add) zzr:=by
 intro pins s σ H x y v u Q I f d h;obtain⟨l,b,xs,zs,rfl,rfl,j,k,t,q⟩:=h;cases f;cases d;obtain⟨z,c,n,r,w,e⟩:=I.lstM j;obtain⟨p,a,n2,g,i,o⟩:=I.lstM k;refine PySem.P.add_list e o ?_ (by rw[yah,yah];omega)
 have m:c.toArray++a.toArray=(c++a).toArray:=by simp
 rw[m];exact⟨.ref _,_,I.lnew (t':=s.toks) (r.append g) (by rw[yap];omega),rfl,q _ I.fresh⟩
noncomputable def zzn:R2:=fun x y H Q=>∃l k xs,x=.ref l/\y=.int k/\H l=some (.lst xs)/\-(2 ^ 63)<=k/\k<2 ^ 63/\xs.length*k.toNat<=sizeLine ∧
 ∀p,H p=none->Q (.ref p) (upd H p (.lst (List.replicate k.toNat xs).flatten))
def zjm{α:Type}(xs:List α)(k:Nat):(List.replicate k xs).flatten.length=k*xs.length:=by
 induction k with
 |zero=>simp|succ k a=>rw[yba,ybx,yap,a,yct,Nat.add_comm]
theorem ztH:OpR X (binaryOp .Mult) zzn:=by
 intro pins s σ H x y v u Q I o j h;obtain⟨l,k,xs,rfl,rfl,w,h1,h2,i,q⟩:=h;cases o;obtain⟨t,rfl⟩:=j;obtain⟨z,b,n,r,p,e⟩:=I.lstM w
 have hlen:b.toArray.size*k.toNat<=sizeLine:=by rw[yah,<-p];exact i
 have g:¬ b.toArray.size*k.toNat > (2 ^ 63-1) / 8:=by
  have:(sizeLine:Nat)<=(2 ^ 63-1) / 8:=by decide
  omega
 have f:¬ (!Builtin.List.listFitsIndex k)=true:=by
  rw[fitsIndex_both h1 h2];exact yaS
 have c:¬ Builtin.List.listTooLong (b.toArray.size*k.toNat)=true:=by
  rw[zj8 hlen];exact yaS
 have d:List.foldl (fun x1 x2=>x1++x2) #[] (List.replicate (if b.toArray.isEmpty=true then 0 else k.toNat) b.toArray)=(List.replicate k.toNat b).flatten.toArray:=by
  have A:∀m:Nat,List.foldl (fun x1 x2=>x1++x2) #[] (List.replicate m b.toArray)=(List.replicate m b).flatten.toArray:=fun m=>by
   have:=zgq b m [];rwa[ybQ]at this
  rw[A]
  cases b with
  |nil=>simp|cons a r'=>rw[if_neg (by simp)]
 refine yck (T:="list") (U:="int") (by decide) ⟨_,e,rfl⟩ (fun s'=>yc3 s' k t) noFill_list_mul F.fills_int_mul ycb repeat_list F.slot_int_index.lookup
  (ycO ycb (yc3 s k t) F.entry_int_rmul (ydk _ _) (int___rmul___int_list k t l b.toArray n)
   ⟨e,rfl,⟨_,e,rfl⟩,ycO F.slot_list_mul ⟨_,e,rfl⟩ F.entry_list_mul (F.args_list_mul_2 _ _) (AutoListH.list___mul___list_int_3 l b.toArray n k t f g c) ⟨e,?_⟩⟩)
 rw[d];exact⟨.ref _,_,I.lnew (t':=s.toks) (r.rep k.toNat) (by rw[zjm,Nat.mul_comm];exact i),rfl,q _ I.fresh⟩
end
end L2
namespace Att
open PySem PySem.W PySem.Calls PyProof.Rows
def zgi:∀(ns:List Int) (vs:List Value),WellAll P h vs (ns.map WData.int)->IntsAre vs ns:=by
 intro ns
 induction ns with
 |nil=>
  intro vs w;rw[List.map_nil]at w;cases w;exact .nil
 |cons n ns c=>
  intro vs w;rw[yav]at w
  cases w with
  |cons a b=>
   cases a;exact .cons _ _ (c _ b)
theorem zlU{l:OpenLaw}(U:l.most=some n){P:Params}{h:Heap}
  (I:l.row.toRowW.claim.pre args=true) (J:WellAll P h vals args):
  ∃a vs ns,vals=[Value.ref a]/\args=[WData.list (ns.map WData.int)]/\h.get? a=some {cls:=.type "list",data:=.seq vs.toArray}/\IntsAre vs ns/\ns.length<=n:=by
 have e:WShape.hasAll [] args [.list .int]=true:=(pre_splitW I).1;have f:l.pre.holds [] {args:=args}=true:=(pre_splitW I).2;obtain⟨d,r,rfl,h1,h2⟩:=hasAllW_cons e;obtain rfl:=hasAllW_nil h2;obtain⟨xs,rfl,m⟩:=hasW_list h1;obtain⟨ns,rfl⟩:=items_int m
 have hlen:ns.length<=n:=by
  unfold OpenLaw.pre at f
  have h4:(WTm.not (.lt (.lit (.int (n:Int))) (.len (.arg 0)))).holds [] {args:=[.list (ns.map .int)]}=true:=by
   have h4:=(holds_andW f).1;rwa[U]at h4
  have c:=condW_of h4 (w_not (w_lt w_lit (w_len_list (w_arg rfl))));rw[yaf]at c;refine Nat.le_of_not_lt fun q=>?_
  have j:(n:Int)<((ns.length:Nat):Int):=by omega
  first
   |(rw[yaB j]at c;exact absurd c (by decide))
   |(simp at c;omega)
 cases J with
 |cons i g=>
  cases g
  cases i with
  |list k b=>exact⟨_,_,ns,rfl,rfl,k,zgi ns _ b,hlen⟩
def zmj(l:OpenLaw)(args:List WData):l.row.toRowW.claim.post args (.bool true) args=true:=
 postW_of (r:=l.row.toRowW) (X:=(true==true))
  (show WShape.has [] (.bool true) .bool=true by first|rfl|decide|simp[WShape.has,WShape.arms,WShape.armsAll])
  (show(WTm.eq .res (.lit (.bool true))).value [] {args:=args,res:=some (.bool true),after:=args}=some (.bool (true==true))from w_eq_bool (w_res rfl) w_lit) rfl
def zjB{l:OpenLaw}{n:Nat}{q:Program}{loose:List Str}{XP:(Str->Option Value)->Heap->Prop}{YP:World->Heap->Prop}{d:DefRec}
  (hn:l.most=some n) (U:d.params.defaults=[])
  (call:∀(w:World) (s₀ I:Shared) (mg J:Z6) (fa:Addr) (o:Obj) (pm cd doc:Value) (a:Addr) (vs:List Value) (ns:List Int),
   Ground q loose [] XP w s₀ mg J I.heap->YP w I.heap →
   I.heap.get? fa=some o->o.data=.func (docDef d.name d.params d.body d.scope pm cd doc)->I.heap.CodeRec cd d.name->mg d.name=some (.ref fa) →
   I.heap.get? a=some {cls:=.type "list",data:=.seq vs.toArray}->IntsAre vs ns->ns.length<=n->I.gens=#[] →
   codeAny (model l.prog w) callerA (.call (.ref fa) ⟨[.ref a],[]⟩) (fun r s'=>r=.ok (.ret (.bool true))/\OldK I.heap s'.heap/\s'.os=I.os/\AllBare s'.gens) I):
  WalkO q loose XP YP l.row.toRowW d [] (fun f vs=>PySem.call f vs):=by
 intro w s₀ I mg J G Y fa o pm cd doc v kV p hd h j g t args vals as b i k e s;obtain rfl:v=.none:=Dflts.none j U;obtain rfl:kV=.none:=Dflts.noKw j;obtain⟨a,vs,ns,rfl,rfl,c,hints,hlen⟩:=zlU hn b e;refine enter_call (ycR (call w s₀ I mg J fa o pm cd doc a vs ns G Y p (fd_plain hd) h g c hints hlen t) fun r s' m=>?_);obtain⟨rfl,h2,u,h4⟩:=m;exact⟨.inl ⟨.bool true,.bool true,[],rfl,fun _=>rfl,.bool true,zmj l _,fun _=>⟨List.Pairwise.nil,fun _ hm=>(nomatch hm)⟩⟩,h2,u,h4⟩
end Att
namespace L2
open PySem PySem.Spec PyProof.Rows
theorem zh1:∀{vs:List Value}{ns:List Int},IntsAre vs ns->Vals (ns.map V.int) vs
 |_,_,.nil=>.nil|_,_,.cons n t h=>.cons ⟨t,rfl⟩ (zh1 h)
noncomputable def zvc(H:Hp):Prop:=∀b,H b=none\/∃o xs,H b=some (.frz o (.lst xs))
def zoK{P:Program}{w:World}{K:PySem.W.Frag}{mg mb:Z6}{CX:CXT}{k:Nat}{fa a:Addr}{fd:FuncData}{x:Str}{sp:Sp}{I:Shared}{vs:List Value}{ns:List Int}
  (KX:K.In I.heap) (a3:I.heap.Ns mainGlobals mg) (J:I.heap.Ns builtinsNs mb) (a6:∀x:Str,x ≠ "__name__" -> mb x=bootBuiltins x) (a4:I.heap.NoLimit) (hg:I.gens=#[])
  (ha:I.heap.get? a=some {cls:=.type "list",data:=.seq vs.toArray}) (hi:IntsAre vs ns) (hl:ns.length<=sizeLine) (hr:Room k callerA)
  (F:∀base:Heap,K.In base->base.Ns mainGlobals mg->FnOk P w K mg base CX k fa fd [x] sp) (U:∀(s:Shared) (u:Value),BindsTo s fd ⟨[u],[]⟩ [(x,u)])
  (a5:∀H:Hp,zvc H->SqL K H a (ns.map V.int)->sp [.ref a] H (fun v _=>v=.bl true) fun _ _ _=>False)
  (a7:∀H e s',CX [] H I (fun _ _ _=>False) e s'->False):
  codeAny (model P w) callerA (.call (.ref fa) ⟨[.ref a],[]⟩) (fun r s'=>r=.ok (.ret (.bool true))/\OldK I.heap s'.heap/\s'.os=I.os/\AllBare s'.gens) I:=by
 have y:=zh1 hi;have g:=hi.length
 have core:∀H:Hp,zvc H->SqL K H a (ns.map V.int)->HOk P w H I.heap->(∀b,H b≠none->b=a)->(H a≠none->K.lookup a=none) →
   codeAny (model P w) callerA (.call (.ref fa) ⟨[.ref a],[]⟩) (fun r s'=>r=.ok (.ret (.bool true))/\OldK I.heap s'.heap/\s'.os=I.os/\AllBare s'.gens) I:=by
  intro H A L hok B N;have zeA:∀{b:Addr}{o:Obj},I.heap.get? b=some o->H b=none->(zoU I.heap H).get? b=some o:=fun e n=>zoT e n
  have l:∀{b:Addr}{o:Obj}{es:Array DictEntry}{ep:Nat},I.heap.get? b=some o->o.data=.dict es ep->H b=none:=fun {b o es ep} e d=>by
   cases q:H b with
   |none=>rfl|some u=>
    have t:b=a:=B b (by rw[q];simp);subst t;rw[ha]at e;cases e;have d':Data.seq vs.toArray _=Data.dict es ep:=d;cases d'
  have c:∀{b:Addr}{m:Z6},I.heap.Ns b m->(zoU I.heap H).Ns b m:=fun {b m} ⟨o,es,ep,e,d,r⟩=>⟨o,es,ep,zeA e (l e d),d,r⟩
  have j:K.In (zoU I.heap H):=fun b o e=>zeA (KX b o e) (by
   cases q:H b with
   |none=>rfl|some u=>
    have t:b=a:=B b (by rw[q];simp);subst t
    rw[N (by rw[q];simp)]at e;cases e)
  have M:Mod K mg (zoU I.heap H):=⟨j,c a3,⟨mb,c J,a6⟩,let ⟨G,h1,h2⟩:=a4;⟨G,c h1,h2⟩⟩;have R:Env0 P w K mg (zoU I.heap H) callerA [] I H:=⟨rfl,M,fun b o e=>zrc e,ybI (zm2 _ _),trivial,fun b J=>absurd (show b∈([]:List Addr)from J) (by simp),hok,.of_eq hg⟩;refine ycR ((F _ j (c a3)).run callerA [] I H ⟨[.ref a],[]⟩ [.ref a] [.ref a] _ _ hr R (U I (.ref a)) (.cons rfl .nil) (a5 H A L)) fun r s' h=>?_
  cases r with
  |error e=>exact(a7 H e s' h).elim|ok O=>
   cases O with
   |next=>exact False.elim h|brk=>exact False.elim h|cont=>exact False.elim h|ret u=>
    obtain⟨v,H',os,bare,un,i,r',q⟩:=h;have E:v=.bl true:=q;subst E;obtain rfl:u=Value.bool true:=r';refine⟨rfl,OldK.of_keep fun b o e=>?_,os,bare⟩
    cases q:H b with
    |none=>exact un.keep b o e q (by intro z;exact absurd (show b∈([]:List Addr)from z) (by simp)) (by simp)
    |some u=>
     rcases A b with z|⟨ob,xs,z⟩
     ·rw[q]at z;cases z
     ·have D:=un.frzs b ob _ z;obtain⟨C,_⟩:=hok b _ z;obtain⟨Q,_⟩:=i b _ D;rw[e]at C;cases C;exact Q
 cases p:K.lookup a with
 |some o=>
  have e:=KX a o p;rw[ha]at e;cases e;refine core (fun _=>none) (fun _=>.inl rfl) (.inr ⟨_,vs.toArray,_,p,rfl,rfl,rfl,by rw[yah,g];exact hl,by simpa using y⟩) (fun b u z=>by have f:(none:Option HO)=some u:=z;cases f) (fun b z=>absurd rfl z) fun z=>absurd rfl z
 |none=>
  refine core (fun b=>if b=a then some (.frz {cls:=.type "list",data:=.seq vs.toArray} (.lst (ns.map V.int)))else none) (fun b=>?_) (.inl (.inr ⟨{cls:=.type "list",data:=.seq vs.toArray},if_pos rfl⟩)) (fun b u z=>?_) (fun b z=>?_) fun _=>p
  ·by_cases J:b=a
   ·exact .inr ⟨_,_,if_pos J⟩
   ·exact .inl (if_neg J)
  ·by_cases J:b=a
   ·have f:=(if_pos J).symm.trans z;cases f;subst J;exact⟨ha,by rw[yaf];exact hl,vs,_,y,ha⟩
   ·have f:=(if_neg J).symm.trans z;cases f
  ·by_cases J:b=a
   ·exact J
   ·exact absurd (if_neg J) z
def zp7{l:PySem.W.OpenLaw}{n k:Nat}{d:DefRec}{K:Params->PySem.W.Frag}{CX:World->CXT}{sp:World->Sp}
  (hn:l.most=some n) (J:n<=sizeLine) (U:d.params.defaults=[]) (hr:Room k callerA)
  (hY:∀(w:World) (h:Heap),YP w h->(K w.params).In h)
  (F:∀(w:World) (mg:Z6) (fa:Addr) (h:Heap),(K w.params).In h->h.Ns mainGlobals mg->mg d.name=some (.ref fa) →
   ∃fd:FuncData,(∀(s:Shared) (u:Value),BindsTo s fd ⟨[u],[]⟩ [(x,u)]) ∧
    ∀base:Heap,(K w.params).In base->base.Ns mainGlobals mg->FnOk l.prog w (K w.params) mg base (CX w) k fa fd [x] (sp w))
  (I:∀(w:World) (H:Hp) (a:Addr) (ns:List Int),ns.length<=n->zvc H->SqL (K w.params) H a (ns.map V.int)->sp w [.ref a] H (fun v _=>v=.bl true) fun _ _ _=>False)
  (a3:∀(w:World) (H:Hp) (s:Shared) (e:Value) (s':Shared),CX w [] H s (fun _ _ _=>False) e s'->False):
  PySem.W.WalkO q loose XP YP l.row.toRowW d [] (fun f vs=>PySem.call f vs):=by
 refine Att.zjB hn U fun w s₀ c mg B fa o pm cd doc a vs ns G Y C hd r j i hints hlen p=>?_
 have m:=hY w _ Y;obtain⟨fd,t,A⟩:=F w mg fa _ m G.T.g j;exact zoK m G.T.g G.T.b G.T.builtins G.T.nolimit p i hints (yak hlen J) hr A t (fun H z y=>I w H a ns hlen z y) fun H e s'=>a3 w H c e s'
noncomputable def zbR(s:Stmt):Arguments:=match s with
 |.FunctionDef _ a _ _ _ _ _ _ _ _=>a|_=>{posonlyargs:=[],args:=[],vararg:=none,kwonlyargs:=[],kw_defaults:=[],kwarg:=none,defaults:=[]}
noncomputable def zaP(s:Stmt):List Stmt:=match s with
 |.FunctionDef _ _ b _ _ _ _ _ _ _=>b|_=>[]
noncomputable def zae(s:Stmt):Scope:=match s with
 |.FunctionDef _ _ _ _ _ _ sc _ _ _=>sc|_=>{kind:=.function,names:=[],isGenerator:=false,isCoroutine:=false}
noncomputable abbrev E0:XK:=fun _ _ _=>False
structure Fun(K:PySem.W.Frag)(x qual:Str)(st:Stmt)(f:Addr)(fd:FuncData):Prop where
 ex:∃(oc:Value) (od:Option Addr) (kV doc pm:Value) (an:Option Addr) (cdv ct:Value) (osl:Array (Option Value)),
  fd=PySem.W.fnOf x qual (zbR st) (zaP st) (zae st) .none kV doc pm an cdv ct/\K.lookup f=some ⟨oc,od,.func fd,osl⟩/\PySem.W.codeIn K cdv qual=true
 kp:PySem.W.keepIn K (.ref f)=true
section
variable{P:Program}{w:World}{K:PySem.W.Frag}{mg:Z6}{base:Heap}
def Fun.binds{x qual:Str}{st:Stmt}{f:Addr}{fd:FuncData}{ps:List Str}(F:Fun K x qual st f fd)
  (h:∀(kV doc pm:Value) (an:Option Addr) (I ct:Value) (us:List Value),us.length=ps.length->bindArgs (PySem.W.fnOf x qual (zbR st) (zaP st) (zae st) .none kV doc pm an I ct) ⟨us,[]⟩=pure (ps.zip us)):zbz K fd ps []:=by
 obtain⟨d,c,kV,doc,pm,an,I,ct,a,rfl,e,b⟩:=F.ex;exact .all (h kV doc pm an I ct)
def zpO{x qual:Str}{st:Stmt}{f:Addr}{oc:Value}{U an:Option Addr}{J:Array (Option Value)}{kV doc pm I ct:Value}(l:K.lookup f=some ⟨oc,U,.func (PySem.W.fnOf x qual (zbR st) (zaP st) (zae st) .none kV doc pm an I ct),J⟩)
  (c:PySem.W.codeIn K I qual=true) (k:PySem.W.keepIn K (.ref f)=true):Fun K x qual st f (PySem.W.fnOf x qual (zbR st) (zaP st) (zae st) .none kV doc pm an I ct):=⟨⟨oc,U,kV,doc,pm,an,I,ct,J,rfl,l,c⟩,k⟩
end
def zhE{A B:Prop}(h:B):if false=true then A else B:=by
 rw[if_neg yaS];exact h
def zkh{A B:Prop}(h:A):if true=true then A else B:=by
 rw[if_pos rfl];exact h
noncomputable def zgC(H H':Hp):Prop:=∀b o,H b=some o->H' b=some o
def zgC.refl(H:Hp):zgC H H:=fun _ _ h=>h
def zgC.trans{H H1 H2:Hp}(a:zgC H H1)(b:zgC H1 H2):zgC H H2:=fun c o h=>b c o (a c o h)
def zgC.free{H H':Hp}(e:zgC H H'){l:Addr}(h:H' l=Option.none):H l=Option.none:=by
 cases q:H l with
 |none=>rfl|some o=>
  rw[e l o q]at h;cases h
def zle(h:∀y∈scope.names,y.2=.free->∃c,env.cells.lookup y.1=some c):
  ∃cl,closureFor scope env=pure cl/\(∀y c,cl.lookup y=some c->env.cells.lookup y=some c)/\∀y,(y,NameKind.free)∈scope.names->∃c,cl.lookup y=some c:=by
 unfold closureFor
 have key:∀(l:List (Str×NameKind)) (cs:List (Str×Addr)),(∀y∈l,y.2=.free->∃c,env.cells.lookup y.1=some c)->(∀y c,cs.lookup y=some c->env.cells.lookup y=some c) →
   ∃cl,(forIn l cs fun(x:Str×NameKind) (r:List (Str×Addr))=>(if(x.2==NameKind.free)=true then(do let c ← cellOf env x.1;pure (ForInStep.yield ((x.1,c)::r)))else pure (ForInStep.yield r):Sem (ForInStep (List (Str×Addr)))))=pure cl ∧
    (∀y c,cl.lookup y=some c->env.cells.lookup y=some c)/\(∀y,(y,NameKind.free)∈l->∃c,cl.lookup y=some c)/\(∀y c,cs.lookup y=some c->∃c',cl.lookup y=some c'):=by
  intro l
  induction l with
  |nil=>intro cs _ q;exact⟨cs,rfl,q,fun y a=>by simp at a,fun y c e=>⟨c,e⟩⟩
  |cons p l t=>
   intro cs s q;obtain⟨n,k⟩:=p
   by_cases o:(k==NameKind.free)=true
   ·have v:k=.free:=eq_of_beq o;obtain⟨c,u⟩:=s (n,k) yay v
    obtain⟨cl,f,j,i,g⟩:=t ((n,c)::cs) (fun y a=>s y (yas _ a)) (fun y c' e=>by
     rw[yaA]at e
     cases d:y==n with
     |true=>rw[d]at e;cases e;rw[eq_of_beq d];exact u|false=>rw[d]at e;exact q y c' e)
    refine⟨cl,?_,j,fun y a=>?_,fun y c' e=>?_⟩
    ·rw[ycB];show((if(k==NameKind.free)=true then _ else _) >>= _)=_;rw[if_pos o]
     have b:cellOf env n=pure c:=by unfold cellOf;rw[u]
     show(cellOf env n >>= _) >>= _=_;rw[b];simpa using f
    ·rcases yan.mp a with z|a
     ·cases z;exact g n c (by rw[yaA];simp)
     ·exact i y a
    ·cases d:y==n with
     |true=>exact g y c (by rw[yaA,d])
     |false=>exact g y c' (by rw[yaA,d];exact e)
   ·obtain⟨cl,f,j,i,g⟩:=t cs (fun y a=>s y (yas _ a)) q;refine⟨cl,?_,j,fun y a=>?_,g⟩
    ·rw[ycB];show((if(k==NameKind.free)=true then _ else _) >>= _)=_;rw[if_neg o];simpa using f
    ·rcases yan.mp a with z|a
     ·cases z;exact absurd rfl o
     ·exact i y a
 obtain⟨cl,f,j,i,_⟩:=key scope.names [] h (fun y c e=>by simp at e);refine⟨cl,?_,j,i⟩;show((forIn scope.names [] _:Sem (List (Str×Addr))) >>= _)=_;have w:=congrArg (fun m=>m >>= (pure:List (Str×Addr)->Sem (List (Str×Addr)))) f;simpa using f
noncomputable def PIf(X:Cx)(ifs:List Expr)(t:TT):Prop:=
 ∀(pins:Z3) (s:Shared) (σ:St) (H:Hp) (Q:Bool->Hp->Prop),Inv X pins σ H s->t σ H Q →
  wpAny (model X.prog X.w) X.A (forIn ifs true fun c r=>if r=true then do let ok ← isTrue c X.env (eval c X.env);pure (ForInStep.yield ok)else pure (ForInStep.yield r)) (TP X pins σ Q) X.xe s
noncomputable def zu0:TT:=fun _ H Q=>Q true H
def zmn:PIf X [] zu0:=fun _ _ _ H _ I h=>wpAny_tests_nil ⟨H,I,h⟩
def zqU(h:PT X c t):PIf X [c] t:=fun pins s σ H Q I a=>wpAny_tests_one (h pins s σ H Q I a)
theorem zfp{scope:Scope}{env:Env}:∀{names:List (Str×NameKind)}{y:Str},(y,NameKind.free)∈names->(∀z∈names,z.1=y->z.2=.free) →
  (names.map fun(n,k)=>if(k==NameKind.free&&env.scope.kind==.function&&env.kindOf n==some .cell)then(n,NameKind.cell)else(n,k)).lookup y=some .cell ∨
  (names.map fun(n,k)=>if(k==NameKind.free&&env.scope.kind==.function&&env.kindOf n==some .cell)then(n,NameKind.cell)else(n,k)).lookup y=some .free
 |[],_,h,_=>by simp at h
 |(n,k)::r,y,h,u=>by
  rw[yav];show List.lookup y ((if(k==NameKind.free&&env.scope.kind==.function&&env.kindOf n==some .cell)=true then(n,NameKind.cell)else(n,k))::_)=_\/List.lookup y ((if(k==NameKind.free&&env.scope.kind==.function&&env.kindOf n==some .cell)=true then(n,NameKind.cell)else(n,k))::_)=_
  cases a:y==n with
  |true=>
   have e:n=y:=(eq_of_beq a).symm;have g:k=.free:=u (n,k) yay e
   by_cases b:(k==NameKind.free&&env.scope.kind==.function&&env.kindOf n==some .cell)=true
   ·rw[if_pos b];left;simp[yaA,a]
   ·rw[if_neg b];right;simp[yaA,a,g]
  |false=>
   have f:(y,NameKind.free)∈r:=by
    rcases yan.mp h with z|z
    ·cases z;simp at a
    ·exact z
   have c:=zfp (scope:=scope) (env:=env) f fun z d=>u z (yas _ d)
   by_cases b:(k==NameKind.free&&env.scope.kind==.function&&env.kindOf n==some .cell)=true
   ·rw[if_pos b];simpa[yaA,a]using c
   ·rw[if_neg b];simpa[yaA,a]using c
def Inv.track(I:Inv X pins σ H s)(J:H D=none)(h1:X.s₀.heap.objs.size<=D)(h2:D≠X.env.locals)(U:∀x c,X.env.cells.lookup x=some c->c≠D)(h4:∀p∈X.pn++pins,p.1≠D)
  (new:zbJ X.prog X.w (upd H D o) s.heap D o):Inv X pins σ (upd H D o) s:=by
 have a:∀b u,H b=some u->b≠D:=fun b u e=>zal e J
 obtain⟨h',g',d',t',o'⟩:=s;refine I.step (h':=h') (g':=g') (d':=d') (t':=t') (ch:=[D]) (fun b d=>?_) (fun b o _ _ _ e _=>e) (fun b o _ _ _ e _=>⟨o.slots,e⟩) (fun b o f e n=>?_) (fun b o _ e=>⟨o,e⟩) (fun b xs e=>?_) (fun b o u e=>?_) (fun b ps e=>?_) (fun m hm=>hm) (fun b u e=>?_) I.bare
 ·have e:b=D:=by simpa using d
  subst e;exact⟨.inr h1,h2,U,h4⟩
 ·rw[zai (fun z=>f (by simp[z]))];exact n
 ·rw[zai (a _ _ e)];exact e
 ·rw[zai (a _ _ e)];exact e
 ·exact⟨#[],by rw[zai (a _ _ e),e];simp⟩
 ·by_cases d:b=D
  ·subst d;rw[zan]at e;cases e;exact new
  ·rw[zai d]at e
   exact(I.hok b u e).stay (fun _ _ _ q=>q) (fun c q=>by rw[zai (a _ _ q)];exact q) fun c xs q=>by rw[zai (a _ _ q)];exact q
section
variable{X:Cx}{elt iter:Expr}{x:Str}{px pos:Pos}{ifs:List Expr}{scope:Scope}{caps:List (Str×Nat)}{wi:TI}{tt:TT}{te:TE}
noncomputable abbrev lob(I:List Value)(k:Nat):Obj:={cls:=.type "list",data:=.seq I.toArray k}
end
section
variable{prog:Program}{w:World}{A:Around}{R:Result->Shared->Prop}{s:Shared}
theorem zoH(I:Nat->Shared->Prop)
  (a6:∀n s,I n s->wpAny (model prog w) A (pyNext it) (fun r U=>match r with
   |none=>R (.ok .next) U|some v=>wpAny (model prog w) A (letOwnedTupleGo target it v) (fun _ s₀=>wpAny (model prog w) A (assign target env v) (fun _ a5=>
     wpAny (model prog w) A (forIn ifs true fun c r=>if r=true then do let ok ← isTrue c env (eval c env);pure (ForInStep.yield ok)else pure (ForInStep.yield r)) (fun ok J=>
      if ok=true then wpAny (model prog w) A (eval elt env) (fun x a4=>
       wpAny (model prog w) A (call (.builtin "list.append") [acc,x]) (fun _ a3=>∃m,m<n/\I m a3) (notedBy (model prog w) A env fun e s'=>R (.error e) s') a4) (notedBy (model prog w) A env fun e s'=>R (.error e) s') J
      else ∃m,m<n/\I m J) (notedBy (model prog w) A env fun e s'=>R (.error e) s') a5) (notedBy (model prog w) A env fun e s'=>R (.error e) s') s₀) (notedBy (model prog w) A env fun e s'=>R (.error e) s') U) (notedBy (model prog w) A env fun e s'=>R (.error e) s') s)
  (n:Nat) (h:I n s):codeAny (model prog w) A (.compLoop (.ListComp elt [⟨target,iter,ifs,0⟩] scope pos) 0 it acc env) R s:=by
 refine codeAny_loop rfl I (fun n s g=>?_) n h;show wpAny _ A ((compTurn (.ListComp elt [⟨target,iter,ifs,0⟩] scope pos) 0 it acc env).onRaise (fun x=>do noteFrame x env;theTreesLotGoes x)) _ _ s;refine wpAny_noted ?_;rw[compTurn_list];refine yaa (ydn (yaa (ybl (a6 n s g) (fun r U h₁=>?_) fun _ _ h'=>h')))
 cases r with
 |none=>exact yae h₁|some v=>
  refine yaa (ybl h₁ (fun _ s₀ h₀=>?_) fun _ _ h'=>h');refine yaa (ybl h₀ (fun _ a5 f=>yaa (ybl f (fun ok J a=>?_) fun _ _ h'=>h')) fun _ _ h'=>h')
  cases ok with
  |false=>exact yae ⟨rfl,a⟩|true=>
   exact yaa (yaa (ybl a (fun x a4 d=>yaa (ybl d (fun _ a3 b=>yae (yae ⟨rfl,b⟩)) fun _ _ h'=>h')) fun _ _ h'=>h'))
end
theorem zbq:∀(names:List (Str×NameKind)) (n:Nat) (acc:List (Str×Addr)),cellsFrom n names acc=cellsFrom n names []++acc
 |[],_,_=>rfl|(x,k)::r,n,acc=>by
  unfold cellsFrom;split
  ·rw[zbq r (n+1) ((x,n)::acc),zbq r (n+1) [(x,n)]];simp
  ·exact zbq r n acc
theorem zdv:∀(names:List (Str×NameKind)) (n:Nat) {x:Str}{c:Addr},(x,c)∈cellsFrom n names []->(x,NameKind.cell)∈names
 |[],_,_,_,h=>by cases h
 |(y,k)::r,n,x,c,h=>by
  unfold cellsFrom at h;split at h
  ·rename_i a;rw[zbq]at h
   rcases ybj.mp h with h|h
   ·exact yas _ (zdv r _ h)
   ·rw[yaI]at h;cases h;rw[yce.mp a];exact yay
  ·exact yas _ (zdv r _ h)
theorem zct{α:Type}:∀{l m:List (Str×α)},(l++m).lookup x=(l.lookup x).or (m.lookup x)
 |[],m=>rfl|(y,a)::l,m=>by
  rw[List.cons_append,yaA,yaA]
  cases x==y with
  |true=>rfl|false=>exact zct
theorem zcp:∀(names:List (Str×NameKind)) (n:Nat) {x:Str},(x,NameKind.cell)∈names->∃c,(cellsFrom n names []).lookup x=some c
 |[],_,_,h=>by cases h
 |(y,k)::r,n,x,h=>by
  unfold cellsFrom;split
  ·rename_i a;rw[zbq,zct]
   rcases yan.mp h with e|h
   ·cases e
    cases b:(cellsFrom (n+1) r []).lookup y with
    |some c=>exact⟨c,rfl⟩|none=>exact⟨n,by simp[yaA]⟩
   ·obtain⟨c,e⟩:=zcp r (n+1) h;rw[e];exact⟨c,rfl⟩
  ·rename_i a
   rcases yan.mp h with e|h
   ·cases e;exact absurd rfl a
   ·exact zcp r n h
def zcS{M:Model}{A:Around}{E:Z5}{s:Shared}{scope:Scope}{globals:Addr}{closure:List (Str×Addr)}{qual:Str}{func:Option Addr}{code:Value}{outer:Env}{builtins:Addr}{Q:Env->Shared->Prop}
  (I:∀h',h'.Ns s.heap.objs.size (fun _=>none)->(∀b o,s.heap.get? b=some o->h'.get? b=some o)->CellsOk h' (s.heap.objs.size+1) (cellsFrom (s.heap.objs.size+1) scope.names []) →
   Q (newEnv scope s.heap.objs.size globals (cellsFrom (s.heap.objs.size+1) scope.names []++closure) qual func code (some outer) builtins) {s with heap:=h'}):
  wpAny M A (newFunctionEnv scope globals closure [] qual func code (some outer) builtins) Q E s:=by
 simp only[newFunctionEnv,Option.isSome_some,ycX];refine yaa (wpAny_alloc ?_);refine yaa (wpAny_layCells _ (fun name kind cells=>by cases a:kind==NameKind.cell<;>simp[a]) _ _ _ _ ?_);have ok:=cellsFrom_ok scope.names (s.heap.push {cls:=.type "dict",data:=.dict #[]}) (s.heap.objs.size+1) [] ⟨fun _ _ hm=>(nomatch hm),List.Pairwise.nil⟩ (by rw[ya6];exact yag _);rw[ya6]at ok;rw[show({s with heap:=s.heap.push {cls:=.type "dict",data:=.dict #[]}}:Shared).heap.objs.size=s.heap.objs.size+1 from ya6 ..];rw[zbq];simp only[List.forIn_nil];refine yaa (yae (yae ?_));exact I _ ((Heap.Ns.new s.heap (.type "dict")).keeps (pushCells_keeps _ _)) (fun b o e=>pushCells_keeps _ _ b o (yac _ e)) ok
structure CompScopeG(sc scope:Scope)(N:List Str)(xs:List Str)(caps:List (Str×Nat)):Prop where
 nd:(scope.names.map (·.1)).Nodup
 kind:scope.kind=.function
 names:∀y∈scope.names,y.2=.local->scope.names.lookup y.1=some .local
 free:∀y∈scope.names,y.2=.free->sc.names.lookup y.1=some .cell\/sc.names.lookup y.1=some .free
 cap:∀p∈caps,N[p.2]?=some p.1/\(p.1,NameKind.free)∈scope.names/\sc.names.lookup p.1≠some .local
 uniq:∀p∈caps,∀z∈scope.names,z.1=p.1->z.2=.free
noncomputable def za7(X:Cx)(xs:List Str)(caps:List (Str×Nat))(scope:Scope)(cl:List (Str×Addr))(C:Addr)(s:Shared)(H:Hp)(ex:List Addr):Cx:=
 {X with N:=xs++caps.map (·.1),s₀:=s,H₀:=H,env:=compEnvC scope cl C X.env,outer:=X.stack,ex:=ex,fn:=fun x=>decide (scope.names.lookup x=some .cell),pn:=[],xe:=fun _ _=>False}
noncomputable abbrev capσ(σ:St)(n:Nat)(caps:List (Str×Nat)):St:=List.replicate n none++caps.map fun p=>(σ[p.2]?).join
noncomputable def zh8(wi:TI)(g:TG)(tt:TT)(te:TE)(n:Nat)(caps:List (Str×Nat)):TE:=fun σ H Q=>wi σ H fun J H1=>∃W:Nat->Nat->List V->St->Hp->Prop,(∃m,W 0 m [] (capσ σ n caps) H1)/\∀i m ys b H,W i m ys b H →
 ys.length<=sizeLine/\((J.stop i H/\∀p,H p=none->Q (.ref p) (upd H p (.lst ys))) ∨
 (J.go i H/\∀x H',J.yld i H x H'->g x b H' fun a H2=>tt a H2 fun ok d=>if ok=true then te a d fun y e=>∃c,c<m/\W (i+1) c (ys++[y]) a e else ∃c,c<m/\W (i+1) c ys a d))
section
variable{X:Cx}{elt iter tg:Expr}{xs:List Str}{pos:Pos}{ifs:List Expr}{scope:Scope}{caps:List (Str×Nat)}{wi:TI}{g:TG}{tt:TT}{te:TE}
structure OwnC(X:Cx)(scope:Scope)(lo:Nat)(h:Heap)(cl:List (Str×Addr)):Prop where
 sort:∀y c,cl.lookup y=some c->X.env.cells.lookup y=some c\/(h.IsCell c none/\lo<=c)
 inj:∀y z c,cl.lookup y=some c->cl.lookup z=some c->y=z
 has:∀y,((y,NameKind.free)∈scope.names\/(y,NameKind.cell)∈scope.names)->∃c,cl.lookup y=some c
 own:∀y c,scope.names.lookup y=some .cell->cl.lookup y=some c->lo<=c
 free:∀y,(y,NameKind.free)∈scope.names->∃c,cl.lookup y=some c/\X.env.cells.lookup y=some c
def zil(h:(relabel scope env).names.lookup y=some .cell\/(relabel scope env).names.lookup y=some .free):(y,NameKind.free)∈scope.names\/(y,NameKind.cell)∈scope.names:=by
 have go:∀k,(relabel scope env).names.lookup y=some k->(k=.cell\/k=.free)->(y,NameKind.free)∈scope.names\/(y,NameKind.cell)∈scope.names:=fun k e f=>by
  have hm:=yaN e;obtain⟨⟨n,k0⟩,b,d⟩:=yat.mp hm
  by_cases a:(k0==.free&&env.scope.kind==.function&&env.kindOf n==some .cell)=true
  ·have c:(n,NameKind.cell)=(y,k):=by rw[<-d];show _=if _ then _ else _;rw[if_pos a]
   cases c
   have:k0=.free:=by simp only[yab]at a;exact eq_of_beq a.1.1
   subst this;exact .inl b
  ·have c:(n,k0)=(y,k):=by rw[<-d];show _=if _ then _ else _;rw[if_neg a]
   cases c
   rcases f with rfl|rfl
   ·exact .inr b
   ·exact .inl b
 rcases h with h|h
 ·exact go _ h (.inl rfl)
 ·exact go _ h (.inr rfl)
theorem ziy:∀{l:List (Str×NameKind)},(l.map (·.1)).Nodup->∀{x:Str}{a b:NameKind},(x,a)∈l->(x,b)∈l->a=b
 |[],_,_,_,_,h,_=>by cases h
 |p::l,nd,x,a,b,h,h'=>by
  rw[yav,ybk]at nd
  rcases yan.mp h with h|h<;>rcases yan.mp h' with h'|h'
  ·rw[<-h']at h;exact(Prod.mk.inj h).2
  ·exact absurd (yat.mpr ⟨_,h',by rw[<-h]⟩) nd.1
  ·exact absurd (yat.mpr ⟨_,h,by rw[<-h']⟩) nd.1
  ·exact ziy nd.2 h h'
def zmv{X:Cx}{scope:Scope}{lo n:Nat}{h:Heap}{cl:List (Str×Addr)}(nd:(scope.names.map (·.1)).Nodup)(hn:lo<=n)(a3:∀x y c,X.env.cells.lookup x=some c->X.env.cells.lookup y=some c->x=y)
  (I:∀y c,cl.lookup y=some c->X.env.cells.lookup y=some c) (U:∀y c,X.env.cells.lookup y=some c->c<lo) (J:∀y,(y,NameKind.free)∈scope.names->∃c,cl.lookup y=some c) (ok:CellsOk h n (cellsFrom n scope.names [])):
  OwnC X scope lo h (cellsFrom n scope.names []++cl):=by
 have sort:∀y c,(cellsFrom n scope.names []++cl).lookup y=some c->((cellsFrom n scope.names []).lookup y=some c)\/((cellsFrom n scope.names []).lookup y=none/\cl.lookup y=some c):=fun y c e=>by
  rw[zct]at e
  cases f:(cellsFrom n scope.names []).lookup y with
  |some c'=>rw[f]at e;exact .inl e|none=>rw[f]at e;exact .inr ⟨rfl,e⟩
 refine⟨fun y c e=>?_,fun y z c e g=>?_,fun y d=>?_,fun y c d e=>?_,fun y d=>?_⟩
 ·rcases sort y c e with z|⟨_,z⟩
  ·have:=ok.empty y c (yaN z);exact .inr ⟨this.1,yak hn this.2⟩
  ·exact .inl (I y c z)
 ·rcases sort y c e with a|⟨_,a⟩<;>rcases sort z c g with b|⟨_,b⟩
  ·exact name_of_addr ok.apart (yaN a) (yaN b)
  ·have h1:=(ok.empty y c (yaN a)).2;have h2:=U z c (I z c b);exact absurd (yaj h2 (yak hn h1)) (yaW _)
  ·have h1:=(ok.empty z c (yaN b)).2;have h2:=U y c (I y c a);exact absurd (yaj h2 (yak hn h1)) (yaW _)
  ·exact a3 y z c (I y c a) (I z c b)
 ·rw[zct]
  cases f:(cellsFrom n scope.names []).lookup y with
  |some c=>exact⟨c,rfl⟩|none=>
   rcases d with d|d
   ·exact J y d
   ·obtain⟨c,e⟩:=zcp scope.names n d;rw[f]at e;cases e
 ·obtain⟨c',g⟩:=zcp scope.names n (yaN d);rw[zct,g]at e;have:c'=c:=Option.some.inj e;subst this;exact yak hn (ok.empty y c' (yaN g)).2
 ·obtain⟨c,e⟩:=J y d;refine⟨c,?_,I y c e⟩;rw[zct]
  cases f:(cellsFrom n scope.names []).lookup y with
  |some c'=>
   have:=zdv scope.names n (yaN f);cases ziy nd d this
  |none=>exact e
theorem zno(S:CompScopeG X.env.scope scope X.N xs caps)(hu:∀p∈caps,∀z∈scope.names,z.1=p.1->z.2=.free)
  (I:Inv X pins σ H s) (J:OwnC X scope s.heap.objs.size s'.heap cl)
  (hf:∀b∈fp,znD X pins H b) (U:∀b∈fp,b<s.heap.objs.size) (hC:s.heap.objs.size<=C) (ho:s'.os=s.os) (hg:s'.gens=s.gens) (hk:∀b o,s.heap.get? b=some o->s'.heap.get? b=some o) (hn:s'.heap.Ns C (fun _=>none)):
  Inv (za7 X xs caps scope cl C s H fp) [] (capσ σ xs.length caps) H s':=by
 have k:∀y c,cl.lookup y=some c->∃v,s'.heap.IsCell c v:=fun y c e=>by
  rcases J.sort y c e with z|z
  ·obtain⟨v,o,q,d⟩:=I.cell y c z;exact⟨v,o,hk _ _ q,d⟩
  ·exact⟨none,z.1⟩
 refine⟨⟨I.ok.mod,S.kind,I.ok.glob,I.ok.blt,hC,J.inj,fun y E=>J.has y (zil E),fun y c z e=>J.own y c (yai z) e,I.ok.hd,I.ok.frames,.inl rfl,fun b h=>⟨yaz (yaj (U b h) hC),fun y c e=>(J.sort y c e).elim (fun z=>(hf b h).2.2.2.2.1 y c z) fun z=>yaQ (yaj (U b h) z.2)⟩,
  I.bs,yak I.ok.bsz I.sz,fun b o e h=>?_,fun b h hm=>?_,I.stack,I.stkFree⟩,ho,by rw[hg];exact I.bare,Un.kept hk,⟨_,hn,fun i y v h1 h2 O=>?_⟩,fun y c e=>k y c e,I.hok.fresh hC,fun y c e=>(J.sort y c e).elim (I.freeC y c) fun z=>I.hok.fresh z.2,fun p n=>absurd (show p∈([]:Z3)from n) (by simp),I.hok.kept hk,?_⟩
 ·rcases(hf b h).2.2.2.1 with z|z
  ·exact I.ok.noex b o e z
  ·exact absurd (yaj (yao e) (yak I.ok.bsz z)) (yaW _)
 ·rcases yan.mp (I.stkSub b hm)with z|z
  ·exact(hf b h).2.1 z
  ·exact(hf b h).2.2.1 z
 ·have hi:¬ i<xs.length:=fun hi=>by
   have a:(capσ σ xs.length caps)[i]?=some (some v):=h2;rw[yaZ (by rw[yaL];exact hi),ybX]at a
   split at a<;>cases a
  ·have f:(caps.map (·.1))[i-xs.length]?=some y:=by
    have f:(xs++caps.map (·.1))[i]?=some y:=h1;rwa[yaG (by omega)]at f
   rw[yaw]at f
   have a:(caps.map fun p=>(σ[p.2]?).join)[i-xs.length]?=some (some v):=by
    have a:(capσ σ xs.length caps)[i]?=some (some v):=h2;rw[yaG (by rw[yaL];omega),yaL]at a;exact a
   rw[yaw]at a
   cases n:caps[i-xs.length]? with
   |none=>rw[n]at f;cases f|some p=>
    rw[n]at f a;have K:p.1=y:=Option.some.inj f;have ev:(σ[p.2]?).join=some v:=Option.some.inj a;subst K;have g:p∈caps:=ybm n;obtain⟨c1,D,M⟩:=S.cap p g
    have A:σ[p.2]?=some (some v):=by
     cases q:σ[p.2]? with
     |none=>rw[q]at ev;cases ev|some w=>rw[q]at ev;have:w=some v:=ev;rw[this]
    have x:=S.free _ D rfl;have F:Vis X.env.scope p.1:=x.elim (fun z=>.inr (.inl z)) (fun z=>.inr (.inr z));obtain⟨m,_,G⟩:=I.loc;obtain⟨u,r,l⟩:=G p.2 p.1 v c1 A F;refine⟨u,r,.inr ⟨zfp (scope:=scope) (env:=X.env) D (hu p g),?_⟩⟩;obtain⟨c,L,B⟩:=J.free p.1 D;refine⟨c,L,?_⟩
    rcases l with⟨z,_⟩|⟨_,c',t,j⟩
    ·exact absurd z M
    ·have:c'=c:=by rw[B]at t;exact(Option.some.inj t).symm
     subst this;obtain⟨o,q,d⟩:=j;exact⟨o,hk _ _ q,d⟩
 ·simp[za7,capσ]
theorem ziO{use:Option (Value->Sem Unit)}{Qf:Z5}{R:VK}{pins:Z3}{s:Shared}{σ:St}{H:Hp}(hc:X.calm=true)(S:CompScopeG X.env.scope scope X.N xs caps)(hi:PI X tg iter wi)(hg:∀cl C s H fp,PG (za7 X xs caps scope cl C s H fp) tg g)
  (ht:∀cl C s H fp,PIf (za7 X xs caps scope cl C s H fp) ifs tt) (he:∀cl C s H fp,PE (za7 X xs caps scope cl C s H fp) elt te)
  (hs:∀v,foldedSetIterable iter X.env v=pure v) (I:Inv X pins σ H s) (h:zh8 wi g tt te xs.length caps σ H R)
  (fin:∀(D C:Addr) (s4:Shared) (m4:Z6) (H6:Hp) (r:Flow),s4.heap.Ns C m4->(∀{U:St}{H7:Hp}{s5:Shared}{h':Heap},Inv X pins U H7 s5->Heap.SameBut C s5.heap h'->H7 C=none->Inv X pins U H7 {s5 with heap:=h'})->H6 C=none->C≠X.env.locals->(∀y c,X.env.cells.lookup y=some c->C≠c)->Inv X pins σ H6 s4->R (.ref D) H6->compPost (model X.prog X.w) X.A X.xe use Qf (.ref D) C (.ok r) s4):
  wpAny (model X.prog X.w) X.A (comprehension (.ListComp elt [⟨tg,iter,ifs,0⟩] scope pos) scope X.env (firstIterPos [⟨tg,iter,ifs,0⟩] pos) (newList []) false (eval iter X.env) use) Qf X.xe s:=by
 obtain⟨cl,ak,aR,aD⟩:=zle (scope:=scope) (env:=X.env) fun y hy hf=>I.ok.has y.1 (S.free y hy hf)
 refine wpAny_comprehension_free (use:=use) rfl hs ak S.kind S.names (thn (hi pins s σ H _ I h) fun v s1 h1=>thn h1 fun b4 s2 h2=>?_);obtain⟨it,fp,tn,J,H2,rfl,V,T,ag,f2,W,⟨m0,w0⟩,ay⟩:=h2;refine yaU (zcS (fun h₁ F m E=>?_));dsimp only at F m E ⊢;generalize aq:s2.heap.push {cls:=.type "list",dict:=none,data:=.seq ([]:List Value).toArray}=G at F m E ⊢
 have av:G.objs.size=s2.heap.objs.size+1:=by rw[<-aq,ya6]
 have au:s2.heap.objs.size≠G.objs.size:=by rw[av];exact yaz (yb2 _)
 have hC:s2.heap.objs.size<=G.objs.size:=by rw[av];exact ycp _
 have old:∀b o,s2.heap.get? b=some o->h₁.get? b=some o:=fun b o e=>m b o (aq ▸ yac _ e)
 have aF:h₁.get? s2.heap.objs.size=some (lob [] 0):=m _ _ (aq ▸ yaq _ rfl)
 have B:∀y c,X.env.cells.lookup y=some c->c<s2.heap.objs.size:=fun y c e=>by obtain⟨v,q⟩:=V.cell y c e;exact q.lt
 have oc:=zmv (X:=X) (lo:=s2.heap.objs.size+1) S.nd (by rw[av];exact ycp _) I.ok.inj aR (fun y c e=>ydl (B y c e)) aD E;generalize b3:cellsFrom (G.objs.size+1) scope.names []++cl=cl2 at oc ⊢;have aN:OwnC X scope s2.heap.objs.size h₁ cl2:=⟨fun y c e=>(oc.sort y c e).imp id fun z=>⟨z.1,ybR z.2⟩,oc.inj,oc.has,fun y c a e=>ybR (oc.own y c a e),oc.free⟩
 have a3:∀b∈fp,b<s2.heap.objs.size:=fun b l=>by obtain⟨o,e,_⟩:=T.obj 0 _ ag b l;exact yao e
 generalize L:za7 X xs caps scope cl2 G.objs.size s2 H2 fp=Y;have aZ:PE Y elt te:=L ▸ he cl2 _ s2 H2 fp;have aX:PIf Y ifs tt:=L ▸ ht cl2 _ s2 H2 fp;have aY:PG Y tg g:=L ▸ hg cl2 _ s2 H2 fp
 have I3:Inv Y [] (capσ σ xs.length caps) H2 {s2 with heap:=h₁}:=by
  rw[<-L];exact zno S S.uniq V aN f2 a3 hC rfl rfl old F
 have x:Y.env=compEnvC scope cl2 G.objs.size X.env:=by rw[<-L];rfl
 have t:Y.env.locals=G.objs.size:=by rw[x];rfl
 have a6:Y.fs=frs X.stack:=by rw[<-L];rfl
 have j:Y.prog=X.prog:=by rw[<-L];rfl
 have Q:Y.w=X.w:=by rw[<-L];rfl
 have aJ:Y.K=X.K:=by rw[<-L];rfl
 have a7:Y.A=X.A:=by rw[<-L];rfl
 have aI:Y.calm=true:=by rw[<-L];exact hc
 have ab:Y.ex=fp:=by rw[<-L];rfl
 have ax:Y.s₀=s2:=by rw[<-L];rfl
 have aW:Y.H₀=H2:=by rw[<-L];rfl
 have aa:Y.pn=[]:=by rw[<-L];rfl
 have O:∀y c,Y.env.cells.lookup y=some c->X.env.cells.lookup y=some c\/s2.heap.objs.size+1<=c:=fun y c e=>(oc.sort y c (by rwa[x]at e)).imp id (·.2)
 have a5:∀e s',¬ Y.xe e s':=fun e s' z=>by rwa[<-L]at z
 have az:∀b∈frs X.stack,b<s2.heap.objs.size:=fun b l=>by
  rcases yan.mp (V.stkSub b l)with z|z
  ·rw[z];exact V.lt
  ·refine Nat.not_le.mp fun hle=>V.nofs hle z
 have a8:∀p∈X.pn++pins,p.1<s2.heap.objs.size:=fun p M=>yao (V.pin p M).1
 have aw:∀{H':Hp}{f:List Value}{k:Nat},(∀b∈fp,H' b=none)->∀b∈fp,znD Y [(s2.heap.objs.size,lob f k)] H' b:=fun {H' f k} hn b l=>by
  refine⟨hn b l,by rw[t];exact yaz (yaj (a3 b l) hC),?_,.inl (by rw[ab];exact l),fun y c e=>(O y c e).elim (fun z=>(f2 b l).2.2.2.2.1 y c z) fun z=>yaQ (yaj (a3 b l) (ybR z)),fun p M=>?_⟩
  ·rw[a6];intro hm
   rcases yan.mp (V.stkSub b hm)with z|z
   ·exact(f2 b l).2.1 z
   ·exact(f2 b l).2.2.1 z
  ·rw[aa]at M
   have e:p=(s2.heap.objs.size,lob f k):=by simpa using M
   rw[e];exact yaQ (a3 b l)
 have a9:∀{H':Hp}{U:St}{s':Shared}{f:List Value}{k:Nat},Inv Y [] U H' s'->s'.heap.get? s2.heap.objs.size=some (lob f k)->H' s2.heap.objs.size=none->Inv Y [(s2.heap.objs.size,lob f k)] U H' s':=fun {H' U s' f k} I' e n=>
  I'.pins_of fun p M=>by
   have ep:p=(s2.heap.objs.size,lob f k):=by simpa using M
   subst ep;refine⟨e,n,by rw[t];exact au,?_,fun v z=>?_⟩
   ·rw[a6];exact fun hm=>yaW _ (az _ hm)
   ·have z':Data.seq f.toArray k=Data.cell v:=z;cases z'
 have loop:codeAny (model X.prog X.w) X.A (.compLoop (.ListComp elt [⟨tg,iter,ifs,0⟩] scope pos) 0 (.ref it) (.ref s2.heap.objs.size) (compEnvC scope cl2 G.objs.size X.env))
   (compPost (model X.prog X.w) X.A X.xe use Qf (.ref s2.heap.objs.size) G.objs.size) {s2 with heap:=h₁}:=by
  refine zoH (fun n s'=>∃i Z H' ys f k,Inv Y [(s2.heap.objs.size,lob f k)] Z H' s'/\tn i s'.heap/\(∀b∈fp,H' b=none)/\Vals ys f/\W i n ys Z H') ?_ m0
   ⟨0,capσ σ xs.length caps,H2,[],[],0,a9 I3 aF (V.hok.fresh (yag _)),T.keep _ _ _ ag fun b l o e=>old b o e,fun b l=>(f2 b l).1,.nil,w0⟩
  rintro n s3 ⟨i,Z,H3,ys,f,k,J3,aA,aH,rv,w3⟩;obtain⟨hz,ao⟩:=ay i n ys Z H3 w3
  rcases ao with⟨stop,q⟩|⟨go,step⟩
  ·have hd:=T.done Y j Q aJ aI i _ s3 _ H3 (notedBy (model X.prog X.w) X.A (compEnvC scope cl2 G.objs.size X.env) fun e s'=>compPost (model X.prog X.w) X.A X.xe use Qf (.ref s2.heap.objs.size) G.objs.size (.error e) s') J3 (aw aH) aA stop;rw[a7]at hd;refine thn hd fun r s4 ⟨hr,J4⟩=>?_
   subst hr;obtain⟨m4,aP,_⟩:=J4.loc
   have aC:s4.heap.Ns G.objs.size m4:=by rw[<-t];exact aP
   have aO:H3 G.objs.size=none:=by rw[<-t];exact J4.free
   have aQ:HOk X.prog X.w H3 s4.heap:=by rw[<-j,<-Q];exact J4.hok
   have u5:Un (frs X.stack) fp H2 H3 s2.heap s4.heap:=by
    have ub:=J4.base;rwa[a6,ab,aW,ax]at ub
   have J5:Inv X pins σ H3 s4:=V.call' (s':=s4) (ch:=fp) (by have:=J4.os;rwa[ax]at this) u5 aQ J4.bare fun b l=>⟨(f2 b l).2.2.2.1,(f2 b l).2.1,(f2 b l).2.2.2.2.1,(f2 b l).2.2.2.2.2⟩
   have ai:=J4.pin (s2.heap.objs.size,lob f k) (yaJ _ yay);have aT:s4.heap.get? s2.heap.objs.size=some (lob f k):=ai.1;have J6:Inv X pins σ (upd H3 s2.heap.objs.size (.lst ys)) s4:=J5.track ai.2.1 V.sz (yaQ V.lt) (fun y c e=>yaz (B y c e)) (fun p M=>yaz (a8 p M)) (show zbJ X.prog X.w _ s4.heap _ (.lst ys)from⟨hz,f,k,rv,aT⟩);have a4:G.objs.size≠X.env.locals:=yaQ (yaj V.lt hC);exact fin _ G.objs.size s4 m4 _ _ aC (fun {U}{H7}{s5}{h'} J aL hn=>J.turned (t':=s5.toks) (it:=G.objs.size) (fun b o l e=>(aL.2 b l).trans e) hn a4 (.inr (yak V.sz hC)) (fun y c e=>yaz (yaj (B y c e) hC)) (fun p M=>yaz (yaj (a8 p M) hC))) (by rw[zai (Ne.symm au)];exact aO) a4 (fun y c e=>yaQ (yaj (B y c e) hC)) J6 (q _ ai.2.1)
  ·have hd:=T.item Y j Q aJ aI i _ s3 _ H3 (notedBy (model X.prog X.w) X.A (compEnvC scope cl2 G.objs.size X.env) fun e s'=>compPost (model X.prog X.w) X.A X.xe use Qf (.ref s2.heap.objs.size) G.objs.size (.error e) s') J3 (aw aH) aA go;rw[a7]at hd;refine thn hd fun r s4 ⟨u,hr,h4⟩=>?_
   subst hr;refine thn h4 fun _ s5 ⟨v4,H4,J4,r4,y4,ae,aV⟩=>?_
   have b2:=J4.pinned (fp:=fp) (aw aV) (T.obj _ _ ae);have ha:=aY _ s5 Z H4 v4 u _ b2 r4 (step v4 H4 y4);rw[j,Q,a7,x]at ha;refine ybl ha (fun _ aM ⟨P,H5,b1,q5⟩=>?_) fun e s' z=>(a5 _ _ z).elim
   have aB:=aX _ aM P H5 _ b1 q5;rw[j,Q,a7,x]at aB;refine ybl aB (fun ok s6 ⟨H6,J6,q6⟩=>?_) fun e s' z=>(a5 _ _ z).elim
   have back:∀{H7:Hp}{s7:Shared},Inv Y ([(s2.heap.objs.size,lob f k)]++ziw fp s5.heap) P H7 s7->tn (i+1) s7.heap/\∀b∈fp,H7 b=none:=fun {H7 s7} J7=>
    ⟨T.keep _ _ _ ae fun b l o e=>(J7.pin (b,o) (yaJ _ (yaJ _ (zd7 l e)))).1,fun b l=>by
     obtain⟨o,e,d⟩:=T.obj _ _ ae b l
     exact(J7.pin (b,o) (yaJ _ (yaJ _ (zd7 l e)))).2.1⟩
   cases ok with
   |false=>
    rw[if_neg yaS]at q6;rw[if_neg yaS];obtain⟨m',aj,w6⟩:=q6;exact⟨m',aj,i+1,P,H6,ys,f,k,J6.unpinned,(back J6).1,(back J6).2,rv,w6⟩
   |true=>
    rw[if_pos rfl]at q6;rw[if_pos rfl];have aE:=aZ _ s6 _ H6 _ J6 q6;rw[j,Q,a7,x]at aE;refine ybl aE (fun u7 s7 ⟨v7,H7,J7,r7,m',aj,w7⟩=>?_) fun e s' z=>(a5 _ _ z).elim
    obtain⟨aK,aU⟩:=back J7;have ah:=(J7.unpinned).pin (s2.heap.objs.size,lob f k) (yaJ _ yay);have hl:=rv.length;refine append_at (hsz:=by show f.toArray.size<=sizeLine;rw[yah];omega) ah.1 fun h8 sb8 aS=>?_
    have b0:Inv Y [] P H7 s7:=J7.unpinned.pins_of fun p M=>absurd M (by simp)
    have J8:Inv Y [] P H7 {s7 with heap:=h8}:=b0.turned (t':=s7.toks) (it:=s2.heap.objs.size) (fun b o l e=>(sb8.2 b l).trans e) ah.2.1 (by rw[t];exact au) (.inr (by rw[ax];exact yag _)) (fun y c e=>(O y c e).elim (fun z=>yaz (B y c z)) fun z=>yaQ z) (fun p M=>by rw[aa]at M;simp at M)
    have aG:h8.get? s2.heap.objs.size=some (lob (f++[u7]) (k+1)):=by rw[aS];simp[lob]
    exact⟨m',aj,i+1,P,H7,ys++[v7],f++[u7],k+1,a9 J8 aG ah.2.1,T.keep _ _ _ aK fun b l o e=>(sb8.2 b (yaz (a3 b l))).trans e,aU,rv.append (.cons r7 .nil),w7⟩
 exact codeAny_compStart_list loop (T.self X.A 0 _ _ _ (T.keep _ _ _ ag fun b l o e=>old b o e) loop)
def zj3(U:X.calm=true)(S:CompScopeG X.env.scope scope X.N xs caps)(hi:PI X tg iter wi)(J:∀cl C s H fp,PG (za7 X xs caps scope cl C s H fp) tg g)
  (ht:∀cl C s H fp,PIf (za7 X xs caps scope cl C s H fp) ifs tt) (he:∀cl C s H fp,PE (za7 X xs caps scope cl C s H fp) elt te)
  (hs:autoParam (∀v,foldedSetIterable iter X.env v=pure v) yAU):PE X (.ListComp elt [⟨tg,iter,ifs,0⟩] scope pos) (zh8 wi g tt te xs.length caps):=by
 intro pins s σ H Q I h;rw[eval_ListComp];exact ziO (use:=none) U S hi J ht he hs I h fun D C j c i r d a e _ _ f q=>⟨c,d,fun k b=>⟨.ref D,i,a f b e,rfl,q⟩⟩
def zoe(hc:X.calm=true)(S:CompScopeG X.env.scope scope X.N xs caps)(a7:X.N.Nodup)(a5:X.N[k0]?=some J)(a3:Loc X.env.scope J)(hi:PI X tg iter wi)(hg:∀cl C s H fp,PG (za7 X xs caps scope cl C s H fp) tg g)
  (ht:∀cl C s H fp,PIf (za7 X xs caps scope cl C s H fp) ifs tt) (he:∀cl C s H fp,PE (za7 X xs caps scope cl C s H fp) elt te)
  (a4:swapsWith (.ListComp elt [⟨tg,iter,ifs,0⟩] scope pos) (some (.Name J py)) U.line X.env=pure true)
  (a6:X.fn J=true\/X.env.scope.names.lookup J=some .local)
  (hs:∀v,foldedSetIterable iter X.env v=pure v):PS X (.Assign [.Name J py] (.ListComp elt [⟨tg,iter,ifs,0⟩] scope pos) U) (zpn (zh8 wi g tt te xs.length caps) (zgn k0)):=by
 intro pins s σ H x I h;rw[exec_Assign_Name_used _ _ _ _ a4];refine yaa (ydn (yaa ?_));show wpAny _ X.A (do let _ ← comprehension (.ListComp elt [⟨tg,iter,ifs,0⟩] scope pos) scope X.env _ (newList []) false (eval iter X.env) (some (assign (.Name J py) X.env))) _ _ s;refine yaa (ybl (ziO (use:=some (assign (.Name J py) X.env)) (Qf:=fun _ s'=>SP X pins x .next s') hc S hi hg ht he hs I h fun D C k l B r n f t o c w q=>?_) (fun _ s' m=>yae (yae m)) fun _ _ e=>e);show wpAny _ X.A (assign (.Name J py) X.env (.ref D)) _ X.xe k;refine wpAny_assign_Name (zh9 (i:=k0) w a7 a5 a3 (v:=.ref D) rfl (fun y u ⟨a,j,p⟩=>?_) a6);have d:C≠a:=p.elim (fun z=>by rw[z];exact o) fun z=>c _ _ z
 exact⟨l,n.sameBut j d,fun h' b=>⟨_,_,f u b t,q⟩⟩
end
end L2
namespace ST
open PySem PySem.SetTable
noncomputable def stp(mask:Nat)(p:Probe):Probe:=
 if p.more > 0 then {p with j:=p.j+1,more:=p.more-1} else
 {p with j:=(leap mask p.i p.perturb).1,more:=runEnd mask (leap mask p.i p.perturb).1-(leap mask p.i p.perturb).1,i:=(leap mask p.i p.perturb).1,perturb:=(leap mask p.i p.perturb).2}
def itr(mask:Nat):Nat->Probe->Probe
 |0,p=>p|n+1,p=>itr mask n (stp mask p)
noncomputable def zwD(mask i I:Nat):Probe:={j:=i,more:=runEnd mask i-i,i:=i,perturb:=I,dummy:=none}
def st(mask:Nat)(h:Int)(n:Nat):Probe:=itr mask n (zwD mask (bits h % (mask+1)) (bits h))
open PySem PySem.Spec PyProof.Rows
end ST
namespace PySem
end PySem
namespace L2
open PySem PySem.Spec PyProof.Rows
section
variable{X:Cx}{a b c:Expr}{ta tb tc:TE}{pos:Pos}
def zb3:zeC X (.builtin "isinstance") (fun xs H Q=>∃x t c k,xs=[x,.ty c]/\TyOf X.K H x t/\PySem.W.kitOne X.K t (.type c)=some k/\Q (.bl k) H):=by
 intro pins s σ H xs us Q I r h;obtain⟨x,t,c,k,rfl,ty,e,q⟩:=h
 cases r with
 |cons r1 a=>
  cases a with
  |cons d b=>
   cases b;cases (show _=Value.type c from d);exact zmW I r1 ty e fun tk=>⟨.bl k,H,I.tok tk,rfl,q⟩
def zhs(bs:List Bool):((List.range bs.length).all fun i=>(bs[i]?).getD true)=bs.all id:=by
 rw[yc7,ybG,ybG];constructor
 ·intro h b c;obtain⟨i,hi,e⟩:=List.mem_iff_getElem.mp c;have:=h i (ybd.mpr hi);rwa[yad hi,e]at this
 ·intro h i hi;have a:=ybd.mp hi;rw[yad a];exact h _ (ybe a)
def zjy(J:X.calm=true):zeC X (.builtin "all") (fun xs H Q=>∃(p:Addr) (bs:List Bool),xs=[.ref p]/\SqL X.K H p (bs.map V.bl)/\Q (.bl (bs.all id)) H):=by
 intro pins s σ H xs us Q I r h;obtain⟨p,bs,rfl,t,q⟩:=h;obtain⟨u,rfl,m⟩:=zh2 r;cases m;obtain⟨a,g,pl,C⟩:=I.list t;have d:=pl.isList
 have c:p<s.heap.objs.size:=by obtain⟨_,e,_⟩:=d;exact yao e
 have l:a.length=bs.length:=by have:=g.length;rw[yaf]at this;exact this.symm
 refine call_all_walk (ycN d ?_);refine⟨s.heap.objs.size,[s.heap.objs.size,p],[s.heap.objs.size],a.toArray.size,_,_,fun i=>(bs[i]?).getD true,rfl,Walks.list (A:=X.A.in1) (I.ok.hd J) _ p (yaz c) a.toArray,⟨⟨_,yaq _ rfl,rfl,rfl⟩,d.push _⟩,fun i v s' B D z y=>?_,fun h' tk w=>?_⟩
 ·have j:a[i]?=some v:=by simpa using z
  have hi:i<bs.length:=by rw[<-l];exact(yal.mp j).1
  obtain⟨u,k,n⟩:=g.get (i:=i) (x:=.bl bs[i]) (by rw[yaw,yad hi];rfl);rw[j]at k;cases k;cases (show v=Value.bool bs[i]from n);refine ybg ?_;have f:B ((bs[i]?).getD true) s':=y;rwa[yad hi]at f
 ·rw[yah,l,zhs];refine⟨.bl _,H,I.kept (t':=tk) fun b o e=>?_,rfl,q⟩;exact w b o (fun hm=>by rw[yaI.mp hm]at e;exact yaW _ (yao e)) (yac _ e)
def zoy:OpR X (binaryOp .Add) (fun x y H Q=>∃(a b:Addr) (ys:List V),x=.ref a/\y=.ref b/\SqT X.K H a []/\SqT X.K H b ys/\Q (.ref b) H):=by
 intro pins s σ H x y v u Q I p o h;obtain⟨a,b,ys,rfl,rfl,w,t,q⟩:=h;cases p;cases o;obtain⟨r,r1,p1,_⟩:=I.tuple w;obtain⟨c,z,p2,_⟩:=I.tuple t;cases r1;obtain⟨⟨cls,dd,data,m⟩,j,k,n,hd⟩:=id p1;obtain⟨⟨l,i,data2,g⟩,d,f,n2,e⟩:=id p2;simp only at k hd f e;subst k hd f e
 exact concat_meets ⟨_,j,rfl⟩ ⟨_,d,rfl⟩ noFill_tuple_add seq_tuple_add ycK ycA (ycs _ _)
  (tuple_addW0 a b ([]:List Value).toArray c.toArray n n2 dd i m g (by rfl)) ⟨j,d,⟨.ref b,H,I,rfl,q⟩⟩
end
end L2
namespace PySem
open PySem.Spec PyProof.Rows
theorem zei:fillsNumberSlot (.type "tuple") "mul"=pure false:=
 fillsNumberSlot_seq (id:="tuple.__mul__") (r:=some (.builtin "tuple.__rmul__")) ycY.lookup (by decide +kernel) F.slot_tuple_rmul.lookup (by decide +kernel)
theorem zgV:seqRepeat? (.type "tuple")=pure (some (.builtin "tuple.__mul__")):=by
 have b:=seqSlot_of (T:="tuple") (name:="__mul__") (id:="tuple.__mul__") ycY.lookup (by decide +kernel);have a:=seqSlot_of (T:="tuple") (name:="__rmul__") (id:="tuple.__rmul__") F.slot_tuple_rmul.lookup (by decide +kernel);unfold seqRepeat?;rw[b,a];rfl
def zfv(a:Int)(t:Tok)(l:Addr)(o:Obj)(J:o.cls=.type "tuple")(I:o.data=.seq U n):
  Meets (Builtin.«int.__rmul__» ⟨[.int a t,.ref l],[]⟩) (fun _ R s=>s.heap.get? l=some o/\R (.ok (.ret Value.notImplemented)) s):=
 .of_wp fun prog w A R s h=>by
  obtain⟨c,d,i,b⟩:=o;simp only at J I;subst J I;obtain⟨e,g,j,tk,os⟩:=s;obtain⟨f,h⟩:=h
  wp_walk
  exact⟨_,rfl,h⟩
section
variable{prog:Program}{w:World}{A:Around}{E:Z5}{s:Shared}
theorem zh4{a:Addr}{o:Obj}{I:Array Value}{n:Nat}{k:Int}{t:Tok}{P:Fin->Shared->Prop}(ho:s.heap.get? a=some o)(hc:o.cls=.type "tuple")(hd:o.data=.seq I n)(J:I.isEmpty=false)(h2:2<=k)(U:(I.size:Int)*k<=1000000)(hk:k<=1000)
  (h:P (.done (.ret (.ref s.heap.objs.size))) {s with heap:=s.heap.push {cls:=.type "tuple",data:=.seq ((List.replicate k.toNat I).foldl (·++·) #[])}}) (hsz:((List.replicate k.toNat I).foldl (·++·) #[]).size<=sizeLine):
  wpAny (model prog w) A (Builtin.«tuple.__mul__» ⟨[.ref a,.int k t],[]⟩) P E s:=by
 show wpAny _ _ (asIndex (.int k t) >>= _) _ _ s;refine yaa ?_;unfold asIndex;refine yaa (yae ?_);dsimp only;refine yae ?_
 have e:(decide (k < -(2 ^ 63))||decide (k ≥ 2 ^ 63))=false:=by
  rw[Bool.or_eq_false_iff];refine⟨yaH ?_,yaH ?_⟩
  ·omega
  ·omega
 rw[e];simp only[yaK,ybr];refine yaa (ydd ho hd ?_)
 have d:(I.isEmpty||k==1)=false:=by rw[J,Bool.false_or];simp;omega
 rw[d];simp only[yaK,ybr]
 have c:(decide (k<=0)||I.isEmpty)=false:=by rw[J,Bool.or_false];exact yaH (by omega)
 rw[c];simp only[yaK,ybr];rw[if_neg (by omega)]
 have b:Builtin.Tuple.tupleTooMany (I.size*k)=false:=by
  unfold Builtin.Tuple.tupleTooMany;refine yaH ?_
  have:(1000000:Int)<=(sizeLine:Int):=by decide
  omega
 rw[b];simp only[yaK,ybr];unfold Builtin.Tuple.tupleExact;exact yaa (yaU (yae h) hsz)
def zh3(ho:s.heap.get? a=some o)(J:o.cls=.type "tuple")(hd:o.data=.seq I n)(h:P (.done (.ret (.ref a))) s):
  wpAny (model prog w) A (Builtin.«tuple.__mul__» ⟨[.ref a,.int 1 t],[]⟩) P E s:=by
 show wpAny _ _ (asIndex (.int 1 t) >>= _) _ _ s;refine yaa ?_;unfold asIndex;refine yaa (yae ?_);dsimp only;refine yae ?_
 have c:(decide ((1:Int) < -(2 ^ 63))||decide ((1:Int) ≥ 2 ^ 63))=false:=by decide
 rw[c];simp only[yaK,ybr];refine yaa (ydd ho hd ?_)
 have b:(I.isEmpty||(1:Int)==1)=true:=by simp
 rw[b];simp only[ycX];unfold Builtin.Tuple.tupleIsExact;refine yaa (yaa (wpAny_typeOf (T:="tuple") ⟨o,ho,J⟩ (yae ?_)));simp only[ybn,ycX];exact yaa (ydi (yae h))
def zrh{a:Addr}{o:Obj}{I:Array Value}{n:Nat}{k:Int}{t:Tok}{Q:Z5}(ho:s.heap.get? a=some o)(hc:o.cls=.type "tuple")(hd:o.data=.seq I n)(J:I.isEmpty=false)(h2:2<=k)(hz:(I.size:Int)*k<=1000000)(hk:k<=1000)
  (h:Q (.ref s.heap.objs.size) {s with heap:=s.heap.push {cls:=.type "tuple",data:=.seq ((List.replicate k.toNat I).foldl (·++·) #[])}}) (hsz:((List.replicate k.toNat I).foldl (·++·) #[]).size<=sizeLine):
  wpAny (model prog w) A (binaryOp .Mult (.ref a) (.int k t)) Q E s:=by
 have b:s.TypeIs (.ref a) "tuple":=⟨o,ho,hc⟩
 refine yck (T:="tuple") (U:="int") (by decide) b (fun s'=>yc3 s' k t) zei F.fills_int_mul ycb zgV F.slot_int_index.lookup
  (ycO ycb (yc3 s k t) F.entry_int_rmul (ydk _ _) (zfv k t a o hc hd) ⟨ho,rfl,b,?_⟩)
 exact ya0 ycY b F.entry_tuple_mul (zh4 ho hc hd J h2 hz hk ⟨_,rfl,h⟩ hsz) (F.args_tuple_mul_2 _ _)
def zoE(ho:s.heap.get? a=some o)(I:o.cls=.type "tuple")(hd:o.data=.seq J n)(h:Q (.ref a) s):wpAny (model prog w) A (binaryOp .Mult (.ref a) (.int 1 t)) Q E s:=by
 have b:s.TypeIs (.ref a) "tuple":=⟨o,ho,I⟩
 refine yck (T:="tuple") (U:="int") (by decide) b (fun s'=>yc3 s' 1 t) zei F.fills_int_mul ycb zgV F.slot_int_index.lookup
  (ycO ycb (yc3 s 1 t) F.entry_int_rmul (ydk _ _) (zfv 1 t a o I hd) ⟨ho,rfl,b,?_⟩)
 exact ya0 ycY b F.entry_tuple_mul (zh3 ho I hd ⟨_,rfl,h⟩) (F.args_tuple_mul_2 _ _)
end
end PySem
namespace L2
open PySem PySem.Spec PyProof.Rows
set_option genInjectivity true in
inductive D where
 |non|bl (b:Bool)|int (i:Int)|str (x:Str)|tup (l:List D)|lst (l:List D)
section
variable{X:Cx}
theorem zq8:OpR X (binaryOp .Mult) (fun x y H Q=>∃(p:Addr) (k:Int) (xs:List V),x=.ref p/\y=.int k/\SqT X.K H p xs/\xs≠[]/\2<=k/\k<=1000/\xs.length<=1000/\∀l,H l=none->Q (.ref l) (upd H l (.tup (List.replicate k.toNat xs).flatten))):=by
 intro pins s σ H x y v u Q I m j h;obtain⟨p,k,xs,rfl,rfl,w,e,h2,i,C,q⟩:=h;cases m;obtain⟨t,rfl⟩:=j;obtain⟨c,g,⟨o,A,B,n,hd⟩,_⟩:=I.tuple w;have f:=g.length
 have d:(List.replicate k.toNat c.toArray).foldl (·++·) #[]=(List.replicate k.toNat c).flatten.toArray:=by
  have:=zgq c k.toNat [];rwa[ybQ]at this
 have hsz:(List.replicate k.toNat c).flatten.length<=1000000:=by
  rw[zjm];exact yak (ybN (show k.toNat<=1000 by omega) (show c.length<=1000 by omega)) (by decide)
 have aa:(1000000:Nat)<=sizeLine:=by decide
 refine zrh A B hd ?_ h2 ?_ i ?_ ?_
 ·have:c≠[]:=fun z=>e (by cases xs with|nil=>rfl|cons a r=>rw[z]at f;cases f)
  simpa using this
 ·rw[yah];have:=Int.mul_le_mul (show(c.length:Int)<=1000 by omega) i (by omega) (by omega);omega
 ·rw[d];refine⟨.ref s.heap.objs.size,_,I.laid (t':=s.toks) (o:=.tup (List.replicate k.toNat xs).flatten) (fun b ob q=>yac _ q) (yag _) ?_,rfl,q _ (I.hok.fresh (yag _))⟩;refine⟨?_,_,g.rep k.toNat,IsTup.new _ _⟩;rw[zjm]at hsz ⊢;rw[<-f]at hsz;omega
 ·rw[d,yah];omega
end
end L2
namespace HT
open PySem PySem.Spec PyProof.Rows L2
section
variable{prog:Program}{w:World}{A:Around}{E:Z5}{s:Shared}
def zfh{t sl:Addr}{items:Array Value}{J I:Value}{lo hi:Option Int}{Q:Z5}(ht:IsTup s.heap t items)(hs:s.heap.IsSliceOf sl J I .none)(pl:IsPart J lo)(pu:IsPart I hi)
  (h1:sIx items.size 0 lo=0) (h2:sIx items.size items.size hi=items.size) (h:Q (.ref t) s):wpAny (model prog w) A (getItem (.ref t) (.ref sl)) Q E s:=by
 obtain⟨os,a,b,d⟩:=id hs;have c:s.TypeIs (.ref sl) "slice":=⟨os,a,b⟩;unfold getItem
 try with_reducible refine ybv ?_
 first|refine yaa (yae ?_)|skip
 refine yaa (wpAny_sequenceKey ht.typeIs (by decide) ?_)
 refine yaa (yaX (name:=Str.ofString "__getitem__") ht.typeIs ya1
  (ya0 ya1 ht.typeIs entry_tuple_getitem ?_ (args_tuple_getitem _ _)))
 show wpAny _ _ (Builtin.Tuple.tupleItemsOf (.ref t) >>= _) _ _ s;refine yaa (tupleItemsOf_ ht ?_);refine yaa (wpAny_typeOf c ?_);rw[if_pos (by decide)];refine yaa (zdA hs pl pu ?_);rw[h1,h2];show wpAny _ _ (if((((0:Nat):Int)==0&&(1:Int)==1&&(items.size-0)==items.size)=true)then _ else _) _ _ s;rw[if_pos (by simp)];unfold Builtin.Tuple.tupleIsExact;refine yaa (yaa (wpAny_typeOf ht.typeIs (yae ?_)));simp only[ybn,ycX];refine yaa (ydi ?_)
 first
  |exact yae ⟨_,rfl,yae h⟩
  |exact yaa (yae (yae ⟨_,rfl,yae h⟩))
end
end HT
namespace L2
open PySem PySem.Spec PyProof.Rows
def zkK:SlR X (fun x lo hi H Q=>∃(a:Addr) (xs:List V),x=.ref a/\SqT X.K H a xs/\HT.sIx xs.length 0 lo=0/\HT.sIx xs.length xs.length hi=xs.length/\Q (.ref a) H):=by
 intro pins s σ H x v f e lo hi g Q I c hs pl pu h;obtain⟨a,xs,rfl,d,h1,h2,q⟩:=h;cases c;obtain⟨b,r,ht,i⟩:=I.tuple d
 have hlen:b.toArray.size=xs.length:=by rw[yah];exact r.length.symm
 refine⟨"tuple",_,ya1.lookup,ht.typeIs,?_⟩;exact HT.zfh ht hs pl pu (by rw[hlen];exact h1) (by rw[hlen];exact h2) ⟨.ref a,H,I,rfl,q⟩
mutual
noncomputable def D.py:D->PyData
 |.non=>.none|.bl b=>.bool b|.int i=>.int i|.str x=>.str x|.tup l=>.tuple (D.pys l)|.lst l=>.list (D.pys l)
noncomputable def D.pys:List D->List PyData
 |[]=>[]|d::l=>d.py::D.pys l
end
mutual
noncomputable def D.fit:Nat->D->Bool
 |_,.non=>true|_,.bl _=>false|_,.int _=>true|_,.str x=>PyData.strOk x|0,.tup _=>false|n+1,.tup l=>D.fits n l|0,.lst _=>false|n+1,.lst l=>D.fits n l
noncomputable def D.fits:Nat->List D->Bool
 |_,[]=>true|n,d::l=>d.fit n&&D.fits n l
end
theorem D.fits_iff:∀{l:List D},D.fits n l=true↔∀d∈l,d.fit n=true
 |[]=>by simp[D.fits]
 |d::l=>by simp[D.fits,D.fits_iff (l:=l)]
mutual
theorem D.lay:∀{n:Nat}{d:D},d.fit n=true->d.py.canLay0=true/\d.py.depth<=n
 |_,.non,_=>⟨rfl,yaF _⟩|_,.bl _,h=>by simp[D.fit]at h
 |_,.int _,_=>⟨rfl,yaF _⟩|_,.str x,h=>⟨by simpa[D.fit,D.py,PyData.canLay0]using h,yaF _⟩
 |0,.tup _,h=>by simp[D.fit]at h
 |0,.lst _,h=>by simp[D.fit]at h
 |n+1,.tup l,h=>by
  have h':D.fits n l=true:=by simpa[D.fit]using h
  obtain⟨a,b⟩:=D.lays h';exact⟨by simpa[D.py,PyData.canLay0]using a,by simp only[D.py,PyData.depth];omega⟩
 |n+1,.lst l,h=>by
  have h':D.fits n l=true:=by simpa[D.fit]using h
  obtain⟨a,b⟩:=D.lays h';exact⟨by simpa[D.py,PyData.canLay0]using a,by simp only[D.py,PyData.depth];omega⟩
theorem D.lays:∀{n:Nat}{l:List D},D.fits n l=true->PyData.canLayAll0 (D.pys l)=true/\PyData.depthAll (D.pys l)<=n
 |_,[],_=>⟨rfl,yaF _⟩|n,d::l,h=>by
  simp only[D.fits,yab]at h;obtain⟨a,b⟩:=D.lay h.1;obtain⟨c,e⟩:=D.lays h.2;exact⟨by simp[D.pys,PyData.canLayAll0,a,c],by simp only[D.pys,PyData.depthAll];omega⟩
end
section
variable{X:Cx}
def zqJ(I:d.canLay0=true)(r:Reads h v d as):SeqAt.readOf h v=d:=by
 have a:∃d as,Reads h v d as:=⟨d,as,r⟩;unfold SeqAt.readOf;rw[dif_pos a];obtain⟨bs,b⟩:=a.choose_spec;exact(SeqAt.Reads.unique _ _ _ _ _ I r b).symm
end
noncomputable def zmz:Option Int->Value->Bool
 |none,.none=>true|some i,v=>Value.isInt i v|_,_=>false
theorem zbl:∀{k:Option Int}{v:Value},zmz k v=true->(k=none/\v=.none)\/∃i t,k=some i/\v=.int i t
 |none,v,h=>by
  cases v<;>simp[zmz]at h
  exact .inl ⟨rfl,rfl⟩
 |some i,v,h=>by
  obtain⟨t,e⟩:=Value.isInt_shape (k:=i) (v:=v) (by simpa[zmz]using h);exact .inr ⟨i,t,rfl,e⟩
noncomputable def zj9:Int:=reduceHash 4238894112
def zm3{prog:Program}{w:World}{A:Around}{E:Z5}{s:Shared}{Q:Int->Shared->Prop}(h:Q zj9 {s with toks:=s.toks+1}):wpAny (model prog w) A (pyHash .none) Q E s:=
 PySem.W.pyHash_slot (T:="NoneType") rfl F.slot_NoneType_hash F.entry_NoneType_hash (F.args_NoneType_hash_1 _) (beq_builtin_none _) (.inl rfl) (yaa (yae (yaa (wpAny_mkInt (yae ⟨_,_,rfl,h⟩)))))
def zfe(prog:Program)(w:World):KeyKind prog w (Option Int)where
 is:=zmz
 hash:=fun k=>match k with|none=>zj9|some i=>hashInt i
 inj:=fun v a b f d=>by
  rcases zbl f with⟨rfl,rfl⟩|⟨i,t,rfl,rfl⟩<;>rcases zbl d with⟨rfl,e⟩|⟨j,u,rfl,e⟩<;>cases e<;>rfl
 byValue:=fun k v h=>by
  rcases zbl h with⟨rfl,rfl⟩|⟨i,t,rfl,rfl⟩<;>rfl
 pyHash:=fun {A E s k v Q} h c=>by
  rcases zbl h with⟨rfl,rfl⟩|⟨i,t,rfl,rfl⟩
  ·exact zm3 c
  ·exact wpAny_pyHash_int c
 eqBool:=fun {A E s a b u v Q} f d c=>by
  rcases zbl f with⟨rfl,rfl⟩|⟨i,t,rfl,rfl⟩<;>rcases zbl d with⟨rfl,rfl⟩|⟨j,u,rfl,rfl⟩
  ·unfold PySem.eqBool;refine ybv ?_;refine wpAny_ite_split (fun _=>yaa (ydi (yae (by simpa using c)))) (fun z=>absurd rfl z)
  ·exact SeqAt.EqAt.none_int j u prog w E Q (by simpa using c)
  ·exact SeqAt.EqAt.int_none i t prog w E Q (by simpa using c)
  ·refine SeqAt.EqAt.int_int i t j u prog w E Q ?_
   have e:decide (some i=some j)=(i==j):=by
    rw[yc7];simp
   rw[<-e];exact c
 «strs»:=fun k x t v h=>by
  rcases zbl h with⟨_,e⟩|⟨i,u,_,e⟩<;>cases e
noncomputable abbrev NK:=Int×List (Option Int)
noncomputable def zfd:Option Int->PyData|none=>.none|some i=>.int i
noncomputable def ze5(prog:Program)(w:World)(h:Heap)(k:NK)(a:Addr):Prop:=∃o items n t b,h.get? a=some o/\o.cls=.type "tuple" /\ o.data=.seq items n/\items.toList=[.int k.1 t,.ref b]/\IsTupleKey (zfe prog w) h k.2 b
section
variable{prog:Program}{w:World}{A:Around}{E:Z5}{s:Shared}
def zoD(prog:Program)(w:World)(k:NK):Int:=reduceHash (Builtin.Tuple.tupleHashOf [hashInt k.1,tupleKeyHash (zfe prog w) k.2])
def ze5.typeIs(x:ze5 prog w s.heap k a):s.TypeIs (.ref a) "tuple":=let ⟨o,_,_,_,_,b,c,_⟩:=x;⟨o,b,c⟩
theorem zep:∀{l:Z4}{vs:List Value},ItemsAre (zfe prog w) l vs->ReadsAll h vs (l.map zfd) []
 |_,_,.nil=>.nil|_,_,.cons h1 r=>by
  rcases zbl h1 with⟨rfl,rfl⟩|⟨i,t,rfl,rfl⟩
  ·exact .cons (as:=[]) (bs:=[]) .none (zep r)
  ·exact .cons (as:=[]) (bs:=[]) (.int i t) (zep r)
def ze5.reads(x:ze5 prog w h k a):Reads h (.ref a) (.tuple [.int k.1,.tuple (k.2.map zfd)]) []:=by
 obtain⟨o,items,n,t,b,i,j,hd,hi,ob,g,m,c,f,e,d⟩:=x;refine .tuple i j hd ?_;rw[hi];exact .cons (as:=[]) (bs:=[]) (.int _ _) (.cons (as:=[]) (bs:=[]) (.tuple c f e (zep d)) .nil)
theorem zix:∀{l m:Z4},PyData.eqvAll (l.map zfd) (m.map zfd)=decide (l=m)
 |[],[]=>by simp[PyData.eqvAll]
 |[],_::_=>by simp[PyData.eqvAll]
 |_::_,[]=>by simp[PyData.eqvAll]
 |x::l,y::m=>by
  have a:=zix (l:=l) (m:=m);simp only[yav,PyData.eqvAll,a]
  cases x<;>cases y<;>simp[zfd,PyData.eqv]
  rw[yc7];simp
theorem zfK:∀{l:Z4},PyData.canLayAll0 (l.map zfd)=true/\PyData.depthAll (l.map zfd)=0
 |[]=>⟨rfl,rfl⟩|x::l=>by
  obtain⟨a,b⟩:=zfK (l:=l)
  cases x<;>simp[zfd,PyData.canLayAll0,PyData.depthAll,PyData.canLay0,PyData.depth,a,b]
def zeR(prog:Program)(w:World):HeapKind prog w NK where
 is:=ze5 prog w
 hash:=zoD prog w
 draws:=fun k=>1+(k.2.length+1)+1
 room:=fun A=>A.units+8<cLine
 inj:=fun {h a x y} N M=>by
  obtain⟨o,items,n,t,b,j,I,hd,hi,i⟩:=N;obtain⟨o',H,n',t',b',C,a3,D,q,X⟩:=M;rw[j]at C;cases C;rw[hd]at D;cases D;rw[hi]at q;simp only[List.cons.injEq,Value.int.injEq,Value.ref.injEq,and_true]at q;obtain⟨⟨g,_⟩,f⟩:=q;subst f;exact Prod.ext g (i.inj X)
 keeps:=fun {h h' k a d o es ep} x j hd hs=>by
  obtain⟨V,items,n,t,b,p,I,u,hi,i⟩:=x;refine⟨V,items,n,t,b,(hs.2 a ?_).trans p,I,u,hi,i.keeps j hd hs⟩;rintro rfl;rw[j]at p;cases p;rw[hd]at u;cases u
 pyHash:=fun {A E s k a Q} Y x B=>by
  have J:=ze5.typeIs (prog:=prog) (w:=w) x;obtain⟨o,items,n,t,b,j,I,hd,hi,i⟩:=x;refine PySem.W.pyHash_slot (T:="tuple") J F.slot_tuple_hash F.entry_tuple_hash (F.args_tuple_hash_1 _) (beq_builtin_none _) (.inr (by omega)) ?_;show wpAny _ _ (Builtin.Tuple.tupleItemsOf (.ref a) >>= _) _ _ s;refine yaa (ydd j hd ?_);refine yaa ?_;rw[<-yde,hi];refine wpAny_forIn_list _ (fun zcd (r:Array Int) s'=>(zcd=[.int k.1 t,.ref b]/\r.toList=[]/\s'=s)\/(zcd=[.ref b]/\r.toList=[hashInt k.1]/\s'={s with toks:=s.toks+1})\/(zcd=[]/\r.toList=[hashInt k.1,tupleKeyHash (zfe prog w) k.2]/\s'={s with toks:=s.toks+1+(k.2.length+1)})) _ ?_ ?_ _ _ (.inl ⟨rfl,rfl,rfl⟩)
  ·rintro x zcd r s' (⟨e,c,rfl⟩|⟨e,c,rfl⟩|⟨e,c,rfl⟩)
   ·injection e with g f
    subst g f;refine yaa (wpAny_pyHash_int ?_)
    first
     |exact yae (.inr (.inl ⟨rfl,by simp[c],rfl⟩))
     |exact yaa (yae (yae (.inr (.inl ⟨rfl,by simp[c],rfl⟩))))
   ·injection e with g f
    subst g f;refine yaa (wpAny_pyHash_tuple (A:=A.in1) (by show A.units+1<cLine;omega) i ?_)
    first
     |exact yae (.inr (.inr ⟨rfl,by simp[c],rfl⟩))
     |exact yaa (yae (yae (.inr (.inr ⟨rfl,by simp[c],rfl⟩))))
   ·cases e
  ·rintro r s' (⟨e,_⟩|⟨e,_⟩|⟨_,c,rfl⟩)
   ·cases e
   ·cases e
   ·show wpAny _ _ (retInt (Builtin.Tuple.tupleHashOf r.toList)) _ _ _;rw[c];refine yaa (wpAny_mkInt (yae ⟨_,_,rfl,?_⟩))
    have e:s.toks+1+(k.2.length+1)+1=s.toks+(1+(k.2.length+1)+1):=by omega
    show Q _ {s with toks:=s.toks+1+(k.2.length+1)+1};rw[e];exact B
 eqBool:=fun {A E s x y a b Q} Y N M B=>by
  refine SeqAt.eqAt_reads _ _ A s (.ref a) (.ref b) [] [] N.reads M.reads ?_ ?_ ?_ prog w E Q ?_
  ·simp[PyData.canLay0,PyData.canLayAll0,zfK.1]
  ·simp[PyData.canLay0,PyData.canLayAll0,zfK.1]
  ·have h1:(PyData.tuple [.int x.1,.tuple (x.2.map zfd)]).depth<=3:=by
    simp[PyData.depth,PyData.depthAll,zfK.2]
   have:min (PyData.tuple [.int x.1,.tuple (x.2.map zfd)]).depth (PyData.tuple [.int y.1,.tuple (y.2.map zfd)]).depth<=3:=yak (Nat.min_le_left _ _) h1;omega
  ·have e:(PyData.tuple [.int x.1,.tuple (x.2.map zfd)]).eqv (.tuple [.int y.1,.tuple (y.2.map zfd)])=decide (x=y):=by
    simp only[PyData.eqv,PyData.eqvAll,zix];rw[yc7];simp[Prod.ext_iff]
   rw[e];exact B
 quiet:=fun {A E s k a Q} x B=>by
  have J:=ze5.typeIs (prog:=prog) (w:=w) x;obtain⟨o,items,n,t,b,j,I,hd,hi,i⟩:=x;have G:=i.typeIs;obtain⟨ob,K,m,O,Z,R,P⟩:=i
  have low:wpAny (model prog w) A (eqIsQuiet 7 (.ref b)) (fun r s'=>r=true/\s'=s) E s:=by
   unfold eqIsQuiet;refine yaa (wpAny_specialOf G F.slot_tuple_eq.lookup ?_);show wpAny _ _ (isInstance (.ref b) (.type "tuple") >>= _) _ _ s;refine yaa (yco G isSubtype_tuple_tuple ?_);simp only[yc0,yaK,ybr];refine yaa (yb6 O R (yaa ?_));show wpAny _ _ (forIn K _ _) _ _ s;rw[<-yde];refine wpAny_forIn_list _ (fun zcd r s'=>r.1=none/\s'=s/\∀v∈zcd,carriedByValue v=true) _ ?_ ?_ _ _ ⟨rfl,rfl,P.byValue⟩
   ·rintro v zcd r s' ⟨c,rfl,l⟩;rw[eqIsQuiet_byValue _ (l v yay)];refine yaa (yae ?_);simp only[yc0,yaK,ybr];exact yae ⟨rfl,rfl,fun z L=>l z (yas _ L)⟩
   ·rintro⟨r1,U⟩ s' ⟨c,rfl,_⟩;simp only at c;subst c;exact yae ⟨rfl,rfl⟩
  unfold eqIsQuiet;refine yaa (wpAny_specialOf J F.slot_tuple_eq.lookup ?_);show wpAny _ _ (isInstance (.ref a) (.type "tuple") >>= _) _ _ s;refine yaa (yco J isSubtype_tuple_tuple ?_);simp only[yc0,yaK,ybr];refine yaa (yb6 j hd (yaa ?_));show wpAny _ _ (forIn items _ _) _ _ s;rw[<-yde,hi];refine wpAny_forIn_list _ (fun zcd r s'=>r.1=none/\s'=s/\(zcd=[.int k.1 t,.ref b]\/zcd=[.ref b]\/zcd=[])) _ ?_ ?_ _ _ ⟨rfl,rfl,.inl rfl⟩
  ·rintro v zcd r s' ⟨c,rfl,(e|e|e)⟩
   ·injection e with g f
    subst g f;rw[eqIsQuiet_byValue _ rfl];refine yaa (yae ?_);simp only[yc0,yaK,ybr];exact yae ⟨rfl,rfl,by simp⟩
   ·injection e with g f
    subst g f;refine yaa (ybl low (fun r' S L=>?_) fun _ _ z=>z);obtain⟨rfl,rfl⟩:=L;simp only[yc0,yaK,ybr];exact yae ⟨rfl,rfl,by simp⟩
   ·cases e
  ·rintro⟨r1,U⟩ s' ⟨c,rfl,_⟩;simp only at c;subst c;exact yae B
end
noncomputable def oV:Option Int->V|none=>.non|some i=>.int i
noncomputable def DN(P:Program)(w:World)(a:Addr)(xs:List (NK×Addr×Value))(h:Heap):Prop:=
 ∃o es ep,h.get? a=some o/\o.ExactDict/\o.data=.dict es ep/\es.toList=xs.map (entryOfKey (zeR P w))/\(xs.map (·.1)).Nodup/\(a==sysModules)=false
noncomputable def zjC(H:Hp)(kb:Addr)(k:NK):Prop:=∃b,H kb=some (.tup [.int k.1,.ref b])/\H b=some (.tup (k.2.map oV))
noncomputable def zpf(H:Hp)(xs:List (NK×Addr×Value))(m:List (NK×V)):Prop:=Paired (fun(x:NK×Addr×Value) (p:NK×V)=>x.1=p.1/\zjC H x.2.1 x.1/\zbu p.2 x.2.2) xs m
def zkv:∀h1 h2:Heap,DN P w a xs h1->(∀o,h1.get? a=some o->h2.get? a=some o)->DN P w a xs h2:=fun h1 h2 ⟨o,es,ep,e,r⟩ k=>⟨o,es,ep,k _ e,r⟩
section
variable{X:Cx}{pins:Z3}{σ:St}{H:Hp}{s:Shared}
theorem zfQ:∀{l:Z4}{I:List Value},Vals (l.map oV) I->ItemsAre (zfe X.prog X.w) l I
 |[],_,.nil=>.nil|none::l,_,.cons r t=>by
  cases r;exact .cons rfl (zfQ t)
 |some i::l,_,.cons r t=>by
  obtain⟨u,rfl⟩:=r;exact .cons (by simp[zfe,zmz,Value.isInt]) (zfQ t)
def Inv.nest(I:Inv X pins σ H s)(h:zjC H kb k):ze5 X.prog X.w s.heap k kb:=by
 obtain⟨b,h1,h2⟩:=h;obtain⟨m,i,⟨o,p,q,n,hd⟩,_⟩:=I.tuple (SqT.of (K:=X.K) h1);obtain⟨g,a,⟨l,d,f,n2,e⟩,_⟩:=I.tuple (SqT.of (K:=X.K) h2)
 cases i with
 |cons r1 c=>
  cases c with
  |cons j c=>
   cases c;obtain⟨t,rfl⟩:=r1;cases j;exact⟨o,_,n,t,b,p,q,hd,rfl,l,_,n2,d,f,e,by simpa using zfQ a⟩
def zpf.keys(I:Inv X pins σ H s):zpf H xs m->∀x∈xs,ze5 X.prog X.w s.heap x.1 x.2.1:=by
 intro h
 induction h with
 |nil=>intro x a;simp at a|cons h t b=>
  intro x a
  rcases yan.mp a with rfl|a
  ·exact I.nest h.2.1
  ·exact b x a
def Inv.ndict(I:Inv X pins σ H s)(h:H a=some (.ext (DN X.prog X.w a xs)))(e:zpf H xs m):s.heap.DictOfH (zeR X.prog X.w) a xs/\(a==sysModules)=false:=by
 obtain⟨⟨o,es,ep,h1,h2,d,h4,c,b⟩,_⟩:=I.hok a _ h;exact⟨⟨o,es,ep,h1,h2,d,h4,e.keys I,c⟩,b⟩
def zfm(e:zpf H xs m)(k:NK):(m.lookup k=none/\atKey xs k=none)\/∃c p,m.lookup k=some c/\atKey xs k=some p/\zbu c p.2:=by
 induction e with
 |nil=>exact .inl ⟨rfl,rfl⟩| @cons x p g f h t i=>
  obtain⟨h1,h2,j⟩:=h
  by_cases a:x.1=k
  ·refine .inr ⟨p.2,x.2,?_,?_,j⟩
   ·obtain⟨d,pc⟩:=p;simp only at h1;subst h1;rw[yaA,a];simp
   ·simp[atKey,a]
  ·have b:¬ p.1=k:=by rw[<-h1];exact a
   have n:List.lookup k (p::f)=List.lookup k f:=by
    obtain⟨d,pc⟩:=p;rw[yaA]
    have:(k==d)=false:=by
     rw[ya2];exact fun z=>b z.symm
    rw[this]
   have l:atKey (x::g) k=atKey g k:=by simp[atKey,List.find?_cons,a]
   rw[n,l];exact i
theorem zpB(J:X.A.units+16<cLine):OpR X (compareOp .NotIn) (fun x y H Q=>∃kb a k xs m,x=.ref kb/\y=.ref a/\zjC H kb k/\H a=some (.ext (DN X.prog X.w a xs))/\zpf H xs m/\Q (.bl (m.lookup k).isNone) H):=by
 intro pins s σ H x y v u Q I f e h;obtain⟨kb,a,k,xs,m,rfl,rfl,i,g,he,q⟩:=h;cases f;cases e;obtain⟨hm,hd⟩:=I.ndict g he;refine wpAny_notIn_heap (knd:=zeR X.prog X.w) (k:=k) (by show X.A.units+1+8<cLine;omega) (I.nest i) hd hm ⟨.bl _,H,I.tok _,?_,q⟩
 rcases zfm he k with⟨d,b⟩|⟨c,p,d,b,_⟩<;>rw[d,b]<;>rfl
def zun(J:X.A.units+16<cLine):IxR X (fun x y H Q=>∃a kb k xs m c,x=.ref a/\y=.ref kb/\zjC H kb k/\H a=some (.ext (DN X.prog X.w a xs))/\zpf H xs m/\m.lookup k=some c/\Q c H):=by
 intro value slice pins s σ H x y v u Q I f e h hs;obtain⟨a,kb,k,xs,m,c,rfl,rfl,i,g,he,b,q⟩:=h;cases f;cases e;obtain⟨hm,hd⟩:=I.ndict g he
 rcases zfm he k with⟨d,_⟩|⟨c',p,d,j,r⟩
 ·rw[d]at b;cases b
 ·rw[d]at b;cases b;exact ycL (x:=p.2) hm.typeIs slot_dict_getitem.lookup (wpAny_getItem_heap (knd:=zeR X.prog X.w) (k:=k) (by show X.A.units+1+8<cLine;omega) (I.nest i) hm j ⟨rfl,c,H,I.tok _,r,q⟩) hs
theorem zqx(J:X.A.units+16<cLine):zwJ X (fun o i v H Q=>∃a kb k xs m,o=.ref a/\i=.ref kb/\zjC H kb k/\H a=some (.ext (DN X.prog X.w a xs))/\zpf H xs m/\m.lookup k=none/\m.length<=1000000/\∀u,zbu v u->Q (upd H a (.ext (DN X.prog X.w a (xs++[(k,kb,u)]))))):=by
 intro pins s σ H o i v ov G u Q I n r l h;obtain⟨a,kb,k,xs,m,rfl,rfl,y,f,he,g,t,q⟩:=h;cases n;cases r;obtain⟨hm,hd⟩:=I.ndict f he;have hlen:xs.length=m.length:=Paired.length he
 have d:atKey xs k=none:=by
  rcases zfm he k with⟨_,d⟩|⟨c',p,E,_,_⟩
  ·exact d
  ·rw[E]at g;cases g
 refine wpAny_setItem_heap (knd:=zeR X.prog X.w) (k:=k) (by show X.A.units+1+8<cLine;omega) (I.nest y) hm (fun h' c j=>?_) (by rw[hlen];exact yak t (by decide));rw[storedH_new d]at c;obtain⟨o,es,ep,g1,g2,g3,D,K,C⟩:=c;have F:DN X.prog X.w a (xs++[(k,kb,u)]) h':=⟨o,es,ep,g1,g2,g3,D,C,hd⟩;refine⟨upd H a (.ext (DN X.prog X.w a (xs++[(k,kb,u)]))),?_,q u l⟩;exact I.write (x:=a) (e:=a) (by rw[f];trivial) (.inl rfl) (fun b o B z=>(j.2 b B).trans z) ⟨_,g1⟩ ⟨F,⟨_,g1⟩,zkv⟩
noncomputable def zvw(P:Program)(w:World):TE:=fun _ H Q=>∀p,H p=none->Q (.ref p) (upd H p (.ext (DN P w p [])))
def zqY:PE X (.Dict [] [] pos) (zvw X.prog X.w):=fun pins s σ H Q I h=>by
 have big:sysModules<s.heap.objs.size:=ydf (show sysModules<mainGlobals by decide) (I.mod.glob.keeps I.bk).lt;have b:(s.heap.objs.size==sysModules)=false:=ya2.mpr (Ne.symm (yaz big));have c:DN X.prog X.w s.heap.objs.size [] (s.heap.push {cls:=.type "dict",data:=.dict #[]}):=⟨_,#[],0,yaq _ rfl,⟨rfl,rfl,rfl⟩,rfl,rfl,List.nodup_nil,b⟩;refine wpAny_Dict_empty ⟨.ref s.heap.objs.size,upd H s.heap.objs.size (.ext (DN X.prog X.w s.heap.objs.size [])),?_,rfl,h _ (I.hok.fresh (yag _))⟩;exact I.laid (a:=s.heap.objs.size) (t':=s.toks) (fun _ _ q=>yac _ q) (yag _) ⟨c,⟨_,yaq _ rfl⟩,zkv⟩
end
section
variable{κ:Type}[DecidableEq κ]
noncomputable def zxw(I:List (κ×V))(k:κ)(v:V):List (κ×V):=
 if(I.any fun a=>decide (a.1=k))=true then I.map (fun a=>if a.1=k then(a.1,v)else a)else I++[(k,v)]
end
def zv7(r:zbu (kV k) u):(zdh P w).is k u=true:=by
 cases k with
 |inl i=>obtain⟨t,e⟩:=(show ∃t,u=Value.int i t from r);subst e;exact zjk P w i t|inr x=>obtain⟨t,e⟩:=(show ∃t,u=Value.str x t from r);subst e;exact zjj P w x t
theorem ziC:∀{ks:List Key}{us:List Value},Vals (ks.map kV) us->ItemsAre (zdh P w) ks us
 |[],_,r=>by rw[List.map_nil]at r;cases r;exact .nil
 |k::ks,_,r=>by
  rw[yav]at r
  cases r with
  |cons h t=>exact .cons (zv7 h) (ziC t)
section
variable{P:Program}{w:World}{H:Hp}{h:Heap}{a:Addr}
def zke(ok:HOk P w H h)(e:H a=some (.tup (ks.map kV))):(tupleKind (zdh P w)).is h ks a:=by
 obtain⟨_,b,r,o,h1,h2,n,c⟩:=(show zbJ P w H h a (.tup (ks.map kV))from ok a _ e);exact⟨o,b.toArray,n,h1,h2,c,by simpa using ziC r⟩
end
section
variable{X:Cx}{pins:Z3}{σ:St}{H:Hp}{s:Shared}{a:Addr}{y v:V}{u r:Value}{o:Option V}{A:Around}{E:Z5}
def Inv.big(I:Inv X pins σ H s):sysModules<s.heap.objs.size:=by
 have h:mainGlobals<s.heap.objs.size:=(I.mod.glob.keeps I.bk).lt;exact ydf (by decide) h
end
structure M1(X:Cx)(o:Expr)(m:Str)(apos:Pos)(e:Expr)(cpos:Pos):Prop where
 base:attributeBase o m X.env (eval o X.env)=eval o X.env
 few:((backTo cpos (starEach [e] X.env)).all (fun x=>!x.1)&&(backToKw cpos (keywordEach [] X.env)).all (fun x=>x.1.isSome)
  && decide (([e]:List Expr).length+([]:List Keyword).length+(if([]:List Keyword).isEmpty then 0 else 1)<30))=true
 line:(apos.endLine==cpos.line)=true
 trees:backTo cpos (starEach [e] X.env)=[(false,eval e X.env)]
structure M2(X:Cx)(o:Expr)(m:Str)(apos:Pos)(e f:Expr)(cpos:Pos):Prop where
 base:attributeBase o m X.env (eval o X.env)=eval o X.env
 few:((backTo cpos (starEach [e,f] X.env)).all (fun x=>!x.1)&&(backToKw cpos (keywordEach [] X.env)).all (fun x=>x.1.isSome)
  && decide (([e,f]:List Expr).length+([]:List Keyword).length+(if([]:List Keyword).isEmpty then 0 else 1)<30))=true
 line:(apos.endLine==cpos.line)=true
 trees:backTo cpos (starEach [e,f] X.env)=[(false,eval e X.env),(false,eval f X.env)]
noncomputable def zpl:List (TE×TE)->St->Hp->(List (V×V)->Hp->Prop)->Prop
 |[],_,H,Q=>Q [] H|(tk,tv)::r,σ,H,Q=>tk σ H fun x H1=>tv σ H1 fun y H2=>zpl r σ H2 fun ps a=>Q ((x,y)::ps) a
noncomputable abbrev VV:List (V×V)->List (Value×Value)->Prop:=Paired fun p q=>zbu p.1 q.1/\zbu p.2 q.2
noncomputable def PPs(X:Cx)(pos:Pos)(keys:List (Option Expr))(values:List Expr)(I:List (TE×TE)):Prop:=
 ∀(pins:Z3) (s:Shared) (σ:St) (H:Hp) (Q:List (V×V)->Hp->Prop),Inv X pins σ H s->zpl I σ H Q →
  wpAny (model X.prog X.w) X.A (evalPairs (pairTrees keys values X.env pos)) (fun vs s'=>∃ps H',Inv X pins σ H' s'/\VV ps vs/\Q ps H') X.xe s
def zqP:PPs X pos [] [] []:=fun pins s σ H Q I h=>pairTrees_nil_walk ⟨[],H,I,.nil,h⟩
def zog(hk:PE X k tk)(U:PE X v tv)(hr:PPs X pos ks vs J):
  PPs X pos (some k::ks) (v::vs) ((tk,tv)::J):=fun pins s σ H Q I h=>
 pairTrees_cons_walk (thn (hk pins s σ H _ I h) fun u s1 ⟨x,H1,i,b,e⟩=>thn (U pins s1 σ H1 _ i e) fun m s2 ⟨y,H2,g,a,d⟩=>
  thn (hr pins s2 σ H2 _ g d) fun l n ⟨ps,j,f,rel,c⟩=>⟨(x,y)::ps,j,f,.cons ⟨b,a⟩ rel,c⟩)
noncomputable abbrev PA2:=(Int×Int)×Addr
noncomputable def kP(p:Int×Int):List Key:=[.inl p.1,.inl p.2]
def zui(h:kP p=kP q):p=q:=by
 obtain⟨a,b⟩:=p;obtain⟨c,d⟩:=q;unfold kP at h
 injection h with h1 h2
 injection h2 with h2 _
 injection h1 with h1
 injection h2 with h2
 exact Prod.ext h1 h2
def xsP(xs:List PA2):List (List Key×Addr×Value):=xs.map fun x=>(kP x.1,x.2,.bool true)
noncomputable def DP(P:Program)(w:World)(a:Addr)(xs:List PA2)(h:Heap):Prop:=
 ∃o es ep,h.get? a=some o/\o.ExactDict/\o.data=.dict es ep/\es.toList=(xsP xs).map (entryOfKey (tupleKind (zdh P w)))/\((xsP xs).map (·.1)).Nodup/\(a==sysModules)=false
noncomputable def KsP(H:Hp)(xs:List PA2):Prop:=∀x∈xs,H x.2=some (.tup [.int x.1.1,.int x.1.2])
def zhN:∀h1 h2:Heap,DP P w a xs h1->(∀o,h1.get? a=some o->h2.get? a=some o)->DP P w a xs h2:=fun h1 h2 ⟨o,es,ep,e,r⟩ k=>⟨o,es,ep,k _ e,r⟩
def zhU:atKey (xsP xs) (kP p)=none↔p ∉ xs.map (·.1):=by
 unfold atKey xsP;rw[Option.map_eq_none_iff,List.find?_eq_none];constructor
 ·intro h z;obtain⟨x,a,e⟩:=yat.mp z;exact h _ (yat.mpr ⟨x,a,rfl⟩) (by simp[e])
 ·intro h y b e;obtain⟨x,a,rfl⟩:=yat.mp b
  have:kP x.1=kP p:=by simpa using e
  exact h (yat.mpr ⟨x,a,zui this⟩)
section
variable{X:Cx}{pins:Z3}{σ:St}{H:Hp}{s:Shared}{a kb:Addr}{xs:List PA2}{p:Int×Int}
def Inv.dp(I:Inv X pins σ H s)(h:H a=some (.ext (DP X.prog X.w a xs)))(k:KsP H xs):s.heap.DictOfH (tupleKind (zdh X.prog X.w)) a (xsP xs)/\(a==sysModules)=false:=by
 obtain⟨⟨o,es,ep,h1,h2,f,h4,e,d⟩,_⟩:=I.hok a _ h;refine⟨⟨o,es,ep,h1,h2,f,h4,fun y b=>?_,e⟩,d⟩;obtain⟨x,c,rfl⟩:=yat.mp b;exact zke I.hok (k x c)
def Inv.dp_addr(I:Inv X pins σ H s)(h:H a=some (.ext (DP X.prog X.w J xs))):J=a:=by
 apply Classical.byContradiction;intro b;obtain⟨dp,_,st⟩:=I.hok a _ h;obtain⟨o,es,ep,h1,h2,i,_⟩:=id dp;have c:=st s.heap (s.heap.update J fun _=>{cls:=.type "list",data:=.seq #[]}) dp (fun q e=>(Heap.get?_update_ne _ _ _ _ (fun z=>b z.symm)).trans e);obtain⟨g,d,f,g1,g2,_⟩:=c;rw[ycc (fun _=>{cls:=.type "list",data:=.seq #[]}) h1 rfl]at g1;cases g1;exact absurd g2.1 (by decide)
def zmA(U:X.A.units+1<cLine):OpR X (compareOp .NotIn) (fun x y H Q=>∃(kb a J:Addr) (p:Int×Int) (xs:List PA2),x=.ref kb/\y=.ref a/\H kb=some (.tup [.int p.1,.int p.2])/\H a=some (.ext (DP X.prog X.w J xs))/\KsP H xs/\Q (.bl (!decide (p∈xs.map (·.1)))) H):=by
 intro pins s σ H x y v u Q I d c h;obtain⟨kb,a,J,p,xs,rfl,rfl,f,b,he,q⟩:=h;cases d;cases c;obtain rfl:=I.dp_addr b;obtain⟨hm,hd⟩:=I.dp b he;refine wpAny_notIn_heap (k:=kP p) (tupleKind_room_in1 U) (zke I.hok f) hd hm ⟨.bl _,H,I.tok _,?_,q⟩
 by_cases e:p∈xs.map (·.1)
 ·have:(atKey (xsP xs) (kP p)).isSome=true:=by
   cases h:atKey (xsP xs) (kP p)with
   |none=>exact absurd e (zhU.mp h)|some _=>rfl
  rw[yaB e,this];rfl
 ·rw[yaH e,zhU.mpr e];rfl
def znW(U:X.A.units+1<cLine):zwJ X (fun o i v H Q=>∃(a J kb:Addr) (p:Int×Int) (xs:List PA2),o=.ref a/\i=.ref kb/\v=.bl true/\H kb=some (.tup [.int p.1,.int p.2])/\H a=some (.ext (DP X.prog X.w J xs))/\KsP H xs/\p ∉ xs.map (·.1)/\xs.length<=1000000/\Q (upd H a (.ext (DP X.prog X.w J (xs++[(p,kb)]))))):=by
 intro pins s σ H o i v ov B u Q I l m j h;obtain⟨a,J,kb,p,xs,rfl,rfl,rfl,t,d,he,r,n,q⟩:=h;cases l;cases m;obtain rfl:=I.dp_addr d;cases (show u=Value.bool true from j);obtain⟨hm,hd⟩:=I.dp d he;refine wpAny_setItem_heap (k:=kP p) (tupleKind_room_in1 U) (zke I.hok t) hm (fun h' c g=>?_) (by unfold xsP;rw[yaf];exact yak n (by decide));rw[storedH_new (zhU.mpr r)]at c;obtain⟨o,es,ep,g1,g2,g3,f,C,e⟩:=c
 have ex:xsP xs++[(kP p,kb,Value.bool true)]=xsP (xs++[(p,kb)]):=by unfold xsP;rw[ybC];rfl
 rw[ex]at f e;have y:DP X.prog X.w _ (xs++[(p,kb)]) h':=⟨o,es,ep,g1,g2,g3,f,e,hd⟩;exact⟨upd H _ (.ext (DP X.prog X.w _ (xs++[(p,kb)]))),I.write (by rw[d];trivial) (.inl rfl) (fun b o x z=>(g.2 b x).trans z) ⟨_,g1⟩ ⟨y,⟨_,g1⟩,zhN⟩,q⟩
noncomputable def zsq(P:Program)(w:World)(tk tv:TE):TE:=fun σ H Q=>∀d,H d=none->tk σ (upd H d (.ext (DP P w d []))) fun x H1=>tv σ H1 fun y H2=>∃(kb:Addr) (p:Int×Int),x=.ref kb/\y=.bl true/\H2 kb=some (.tup [.int p.1,.int p.2])/\H2 d=some (.ext (DP P w d []))/\Q (.ref d) (upd H2 d (.ext (DP P w d [(p,kb)])))
def zor(hu:X.A.units+1<cLine)(U:PE X k tk)(J:PE X v tv):PE X (.Dict [some k] [v] pos) (zsq X.prog X.w tk tv):=by
 intro pins s σ H Q I q;have u:=I.hok.fresh (yag s.heap.objs.size);have big:sysModules<s.heap.objs.size:=I.big;have d:(s.heap.objs.size==sysModules)=false:=ya2.mpr (Ne.symm (yaz big));have E:DP X.prog X.w s.heap.objs.size [] (s.heap.push {cls:=.type "dict",data:=.dict #[]}):=⟨_,#[],0,yaq _ rfl,⟨rfl,rfl,rfl⟩,rfl,rfl,List.nodup_nil,d⟩;have F:=I.laid (a:=s.heap.objs.size) (o:=.ext (DP X.prog X.w s.heap.objs.size [])) (h':=s.heap.push {cls:=.type "dict",data:=.dict #[]}) (t':=s.toks) (fun _ _ q=>yac _ q) (yag _) ⟨E,⟨_,yaq _ rfl⟩,zhN⟩;refine wpAny_Dict_any rfl rfl (fun z=>nomatch z) (by show(1:Nat)<=15;decide) (thn (zog U J zqP pins _ σ _ (fun ps H2=>match ps with|[(x,y)]=>∃(kb:Addr) (p:Int×Int),x=.ref kb/\y=.bl true/\H2 kb=some (.tup [.int p.1,.int p.2])/\H2 s.heap.objs.size=some (.ext (DP X.prog X.w s.heap.objs.size []))/\Q (.ref s.heap.objs.size) (upd H2 s.heap.objs.size (.ext (DP X.prog X.w s.heap.objs.size [(p,kb)])))|_=>False) F (q _ u)) fun G s2 ⟨ps,H2,g,rel,z⟩=>?_);split at z
 rotate_left
 ·exact z.elim
 ·obtain⟨kb,p,rfl,rfl,h1,h2,r⟩:=z
  cases rel with
  | @cons x y xs ys r1 n=>
   cases n;obtain⟨i,h⟩:=y;obtain⟨m,l⟩:=r1;cases (show i=Value.ref kb from m);cases (show h=Value.bool true from l);unfold storeAll;rw[ycB];obtain⟨hm,hd⟩:=g.dp h2 (fun x t=>by cases t);refine yaa (yaa (wpAny_dictSet_heap (k:=kP p) (hsz:=yaF _) (show X.A.units<cLine by omega) (zke g.hok h1) hm fun h' c j=>yae ?_));rw[storedH_new (zhU.mpr (fun z=>by cases z))]at c;obtain⟨o,es,ep,g1,g2,g3,D,K,C⟩:=c;have f:DP X.prog X.w s.heap.objs.size [(p,kb)] h':=⟨o,es,ep,g1,g2,g3,D,C,hd⟩;refine yae ⟨.ref s.heap.objs.size,_,?_,rfl,r⟩;exact g.write (x:=s.heap.objs.size) (e:=s.heap.objs.size) (by rw[h2];trivial) (.inl rfl) (fun b o B z=>(j.2 b B).trans z) ⟨_,g1⟩ ⟨f,⟨_,g1⟩,zhN⟩
end
end L2
namespace S2
open PySem PySem.Spec PyProof.Rows L2
noncomputable abbrev St:=L2.St
set_option genInjectivity true in
inductive D where
 |non|bl (b:Bool)|int (i:Int)|str (x:Str)|tup (l:List D)|lst (l:List D)|dic (l:List (D×D))|ref (n:Nat)|exc (c:Str)|scr (l:List Int)
set_option genInjectivity true in
inductive Root where
 |slot (i:Nat)|fld (n:Nat) (f:Str)|obj (n:Nat)|far
 deriving DecidableEq
noncomputable abbrev Ow:=Addr->Option Root
structure Cf where
 ad:Str->Addr
 K:PySem.W.Frag
 P:Program
 wo:PySem.World
noncomputable instance:CoeFun Cf (fun _=>Str->Addr):=⟨Cf.ad⟩
structure Wd where
 H:Hp
 ow:Ow
 mu:List Addr
noncomputable def pdD(ps:List (Int×Int)):List (D×D):=ps.map fun p=>(.tup [.int p.1,.int p.2],.bl true)
inductive Exd(cl:Cf)(w:Wd):HO->List (D×D)->Prop
 |pd {a:Addr}{xs:List PA2}:(∀x∈xs,w.H x.2=some (.tup [.int x.1.1,.int x.1.2])/\w.ow x.2=none)->Exd cl w (.ext (DP cl.P cl.wo a xs)) (pdD (xs.map (·.1)))
mutual
inductive Shd(cl:Cf)(w:Wd):V->D->Prop
 |non:Shd cl w .non .non
 |bl (b:Bool):Shd cl w (.bl b) (.bl b)
 |int (i:Int):Shd cl w (.int i) (.int i)
 |str (x:Str):Shd cl w (.str x) (.str x)
 |tup {a:Addr}{xs:List V}{ds:List D}:w.H a=some (.tup xs)->w.ow a=none->Shds cl w xs ds->Shd cl w (.ref a) (.tup ds)
 |lst {a:Addr}{xs:List V}{ds:List D}:w.H a=some (.lst xs)->w.ow a=none->Shds cl w xs ds->Shd cl w (.ref a) (.lst ds)
 |dicX {a:Addr}{o:HO}{ds:List (D×D)}:w.H a=some o->w.ow a=none->Exd cl w o ds->Shd cl w (.ref a) (.dic ((.bl true,.non)::ds))
 |ref {n:Nat}{a:Addr}:w.mu[n]?=some a->Shd cl w (.ref a) (.ref n)
 |scr {a:Addr}{o:Obj}{l:List Int}:w.H a=some (.frz o (.lst (l.map V.int)))->w.ow a=none->Shd cl w (.ref a) (.scr l)
 |scrK {a:Addr}{l:List Int}:(∀H:Hp,SqL cl.K H a (l.map V.int))->Shd cl w (.ref a) (.scr l)
 |exc {a:Addr}{c:Str}{ob:Obj}:w.H a=some (.frz ob (.own a))->w.ow a=none->ob.cls=.ref (cl c)->Shd cl w (.ref a) (.exc c)
inductive Shds(cl:Cf)(w:Wd):List V->List D->Prop
 |nil:Shds cl w [] []
 |cons {v:V}{d:D}{vs:List V}{ds:List D}:Shd cl w v d->Shds cl w vs ds->Shds cl w (v::vs) (d::ds)
end
structure Fut(w w':Wd):Prop where
 keep:∀a o,w.H a=some o->w.ow a=none->w'.H a=some o/\w'.ow a=none
 mu:∀(n:Nat) (a:Addr),w.mu[n]?=some a->w'.mu[n]?=some a
def Fut.refl(w:Wd):Fut w w:=⟨fun _ _ h k=>⟨h,k⟩,fun _ _ h=>h⟩
def Fut.trans(a:Fut w J)(b:Fut J I):Fut w I:=⟨fun c o h k=>b.keep c o (a.keep c o h k).1 (a.keep c o h k).2,fun n c h=>b.mu n c (a.mu n c h)⟩
theorem Exd.up(f:Fut w w'):Exd cl w o ds->Exd cl w' o ds
 |.pd h=>.pd fun x a=>f.keep _ _ (h x a).1 (h x a).2
theorem Shd.up{cl:Cf}{w w':Wd}(f:Fut w w'){v:V}{d:D}(h:Shd cl w v d):Shd cl w' v d:=
 Shd.rec (motive_1:=fun v d _=>Shd cl w' v d) (motive_2:=fun vs ds _=>Shds cl w' vs ds) .non .bl .int .str (fun e k _ r=>.tup (f.keep _ _ e k).1 (f.keep _ _ e k).2 r) (fun e k _ r=>.lst (f.keep _ _ e k).1 (f.keep _ _ e k).2 r) (fun e k x=>.dicX (f.keep _ _ e k).1 (f.keep _ _ e k).2 (x.up f)) (fun e=>.ref (f.mu _ _ e)) (fun e k=>.scr (f.keep _ _ e k).1 (f.keep _ _ e k).2) .scrK (fun e k h=>.exc (f.keep _ _ e k).1 (f.keep _ _ e k).2 h) .nil (fun _ _ a b=>.cons a b) h
def Shds.ind{cl:Cf}{w:Wd}{p:List V->List D->Prop}(n:p [] [])(c:∀{v d vs ds},Shd cl w v d->Shds cl w vs ds->p vs ds->p (v::vs) (d::ds)){vs:List V}{ds:List D}(h:Shds cl w vs ds):p vs ds:=by
 induction vs generalizing ds with
 |nil=>cases h;exact n|cons v vs e=>cases h with|cons a b=>exact c a b (e b)
theorem Shds.up{cl:Cf}{w w':Wd}(f:Fut w w'){vs:List V}{ds:List D}(h:Shds cl w vs ds):Shds cl w' vs ds:=
 h.ind (p:=fun vs ds=>Shds cl w' vs ds) .nil fun a _ t=>.cons (a.up f) t
section
variable{cl:Cf}{w:Wd}
theorem Shds.length{vs:List V}{ds:List D}(h:Shds cl w vs ds):vs.length=ds.length:=h.ind (p:=fun vs ds=>vs.length=ds.length) rfl fun _ _ t=>congrArg Nat.succ t
def Shds.get{vs:List V}{ds:List D}(h:Shds cl w vs ds):∀{i:Nat}{v:V},vs[i]?=some v->∃d,ds[i]?=some d/\Shd cl w v d:=
 h.ind (p:=fun vs ds=>∀{i:Nat}{v:V},vs[i]?=some v->∃d,ds[i]?=some d/\Shd cl w v d) (fun e=>nomatch e) fun r _ t i _ e=>by
  cases i with
  |zero=>cases e;exact⟨_,rfl,r⟩|succ i=>exact t e
def Shds.at{vs:List V}{ds:List D}(h:Shds cl w vs ds):∀{i:Nat}{d:D},ds[i]?=some d->∃v,vs[i]?=some v/\Shd cl w v d:=
 h.ind (p:=fun vs ds=>∀{i:Nat}{d:D},ds[i]?=some d->∃v,vs[i]?=some v/\Shd cl w v d) (fun e=>nomatch e) fun r _ t i _ e=>by
  cases i with
  |zero=>cases e;exact⟨_,rfl,r⟩|succ i=>exact t e
def Shds.append{vs I:List V}{ds es:List D}(h:Shds cl w vs ds)(s:Shds cl w I es):Shds cl w (vs++I) (ds++es):=h.ind (p:=fun vs ds=>Shds cl w (vs++I) (ds++es)) s fun r _ t=>.cons r t
theorem Shds.take:∀{vs:List V}{ds:List D} (n:Nat),Shds cl w vs ds->Shds cl w (vs.take n) (ds.take n)
 |_,_,0,_=>.nil|_,_,_+1,.nil=>.nil|_,_,n+1,.cons r t=>.cons r (Shds.take n t)
theorem Shds.drop:∀{vs:List V}{ds:List D} (n:Nat),Shds cl w vs ds->Shds cl w (vs.drop n) (ds.drop n)
 |_,_,0,s=>s|_,_,_+1,.nil=>.nil|_,_,n+1,.cons _ t=>Shds.drop n t
theorem Shds.flat(h:Shds cl w vs ds):∀n:Nat,Shds cl w (List.replicate n vs).flatten (List.replicate n ds).flatten
 |0=>.nil|n+1=>by
  rw[yba,yba,ybx,ybx];exact Shds.append h (Shds.flat h n)
end
inductive Top(cl:Cf)(w:Wd):HO->D->Prop
 |lst {xs:List V}{ds:List D}:Shds cl w xs ds->Top cl w (.lst xs) (.lst ds)
 |dicX {o:HO}{ds:List (D×D)}:Exd cl w o ds->Top cl w o (.dic ((.bl true,.non)::ds))
theorem Top.up(f:Fut w w'):Top cl w o d->Top cl w' o d
 |.lst h=>.lst (h.up f)|.dicX x=>.dicX (x.up f)
noncomputable def zi0(cl:Cf)(w:Wd)(r:Root):Bool->V->D->Prop
 |false,v,d=>Shd cl w v d|true,v,d=>∃a o,v=.ref a/\w.ow a=some r/\w.H a=some o/\Top cl w o d
theorem zi0.keep(f:Fut w w')(k:∀a o,w.H a=some o->w.ow a=some r->w'.H a=some o/\w'.ow a=some r):∀{b:Bool}{v:V}{d:D},zi0 cl w r b v d->zi0 cl w' r b v d
 |false,_,_,h=>Shd.up f h|true,_,_,⟨a,o,e,h1,h2,t⟩=>⟨a,o,e,(k a o h2 h1).2,(k a o h2 h1).1,t.up f⟩
noncomputable def oDn:Option Int->D|none=>.non|some i=>.int i
def nkD(k:NK):D:=.tup [.int k.1,.tup (k.2.map oDn)]
inductive ShdN(cl:Cf)(w:Wd):List (NK×V)->List (D×D)->Prop
 |nil:ShdN cl w [] []
 |cons {k:NK}{v:V}{d:D}{m:List (NK×V)}{ds:List (D×D)}:Shd cl w v d->ShdN cl w m ds->ShdN cl w ((k,v)::m) ((nkD k,d)::ds)
theorem ShdN.up(f:Fut w w'):∀{m:List (NK×V)}{ds:List (D×D)},ShdN cl w m ds->ShdN cl w' m ds
 |_,_,.nil=>.nil|_,_,.cons r t=>.cons (r.up f) (ShdN.up f t)
noncomputable def znH(w:Wd)(kb:Addr)(k:NK):Prop:=∃b,(w.H kb=some (.tup [.int k.1,.ref b])/\w.ow kb=none)/\w.H b=some (.tup (k.2.map oV))/\w.ow b=none
def znH.up(f:Fut w w')(h:znH w kb k):znH w' kb k:=by
 obtain⟨b,h1,h2⟩:=h;exact⟨b,f.keep _ _ h1.1 h1.2,f.keep _ _ h2.1 h2.2⟩
def znH.at(h:znH w kb k):zjC w.H kb k:=by
 obtain⟨b,h1,h2⟩:=h;exact⟨b,h1.1,h2.1⟩
noncomputable def zkB(w:Wd):List (NK×Addr×Value)->List (NK×V)->Prop:=Paired fun(x:NK×Addr×Value) (p:NK×V)=>x.1=p.1/\znH w x.2.1 x.1/\zbu p.2 x.2.2
theorem zkB.up(f:Fut w w'):∀{xs:List (NK×Addr×Value)}{m:List (NK×V)},zkB w xs m->zkB w' xs m
 |_,_,.nil=>.nil|_,_,.cons h t=>.cons ⟨h.1,h.2.1.up f,h.2.2⟩ (zkB.up f t)
theorem zkB.ents:∀{xs:List (NK×Addr×Value)}{m:List (NK×V)},zkB w xs m->zpf w.H xs m
 |_,_,.nil=>.nil|_,_,.cons h t=>.cons ⟨h.1,h.2.1.at,h.2.2⟩ (zkB.ents t)
theorem zkB.snoc(h:x.1=p.1/\znH w x.2.1 x.1/\zbu p.2 x.2.2):∀{xs:List (NK×Addr×Value)}{m:List (NK×V)},zkB w xs m->zkB w (xs++[x]) (m++[p])
 |_,_,.nil=>.cons h .nil|_,_,.cons h' t=>.cons h' (zkB.snoc h t)
theorem ShdN.snoc(h:Shd cl w v d):∀{m:List (NK×V)}{ds:List (D×D)},ShdN cl w m ds->ShdN cl w (m++[(k,v)]) (ds++[(nkD k,d)])
 |_,_,.nil=>.cons h .nil|_,_,.cons r t=>.cons r (ShdN.snoc h t)
noncomputable def zAq(cl:Cf)(w:Wd)(r:Root)(v:V)(d:D):Prop:=∃a xs m ds,v=.ref a/\w.ow a=some r/\w.H a=some (.ext (DN cl.P cl.wo a xs))/\zkB w xs m/\ShdN cl w m ds/\d=.dic ds
noncomputable def zjE(cl:Cf)(w:Wd)(r:Root)(own:Bool)(v:V)(d:D):Prop:=(own=false/\Shd cl w v d)\/(own=true/\zAq cl w r v d)\/(own=true/\∃d0,d=.tup [d0]/\zi0 cl w r true v d0)
theorem zjE.keep(f:Fut w w')(k:∀a o,w.H a=some o->w.ow a=some r->w'.H a=some o/\w'.ow a=some r)(h:zjE cl w r b v d):zjE cl w' r b v d:=by
 rcases h with⟨e,h⟩|⟨e,a,xs,m,ds,c,i,g,n,l,j⟩|⟨e,d0,c,h⟩
 ·exact .inl ⟨e,h.up f⟩
 ·exact .inr (.inl ⟨e,a,xs,m,ds,c,(k a _ g i).2,(k a _ g i).1,n.up f,l.up f,j⟩)
 ·exact .inr (.inr ⟨e,d0,c,h.keep f k⟩)
structure Ob where
 cls:Str
 fs:List (Str×Bool×D)
noncomputable abbrev Sto:=List Ob
noncomputable def zda(cl:Cf)(w:Wd)(n:Nat):List (Str×V)->List (Str×Bool×D)->Prop:=Paired fun p q=>p.1=q.1/\zjE cl w (.fld n q.1) q.2.1 p.2 q.2.2
noncomputable def zuU(cl:Cf)(w:Wd)(n:Nat)(a:Addr)(ob:Ob):Prop:=w.ow a=some (.obj n)/\∃dx fs,w.H a=some (.ins (cl ob.cls) dx fs)/\zda cl w n fs ob.fs
noncomputable def ztQ(n:Nat):Option Root->Prop|some (.obj m)=>m=n|some (.fld m _)=>m=n|_=>False
theorem zda.keep(f:Fut w w')(k:∀a o,w.H a=some o->ztQ n (w.ow a)->w'.H a=some o/\w'.ow a=w.ow a):∀{fs:List (Str×V)}{gs:List (Str×Bool×D)},zda cl w n fs gs->zda cl w' n fs gs
 |_,_,.nil=>.nil|_,_,.cons ⟨e,h⟩ t=>.cons ⟨e,h.keep f fun a o c b=>by
   have:=k a o c (by rw[b];rfl)
   exact⟨this.1,this.2.trans b⟩⟩ (zda.keep f k t)
theorem zuU.keep(f:Fut w w')(k:∀a o,w.H a=some o->ztQ n (w.ow a)->w'.H a=some o/\w'.ow a=w.ow a)(h:zuU cl w n a ob):zuU cl w' n a ob:=by
 obtain⟨h1,dx,fs,h2,b⟩:=h;have:=k a _ h2 (by rw[h1];rfl);exact⟨this.2.trans h1,dx,fs,this.1,b.keep f k⟩
structure Base where
 Fr:Hp
 fw:Ow
structure World'(cl:Cf)(B:Base)(w:Wd)(S:Sto):Prop where
 fr:∀a o,B.Fr a=some o->w.H a=some o/\w.ow a=B.fw a
 own:∀a r,w.ow a=some r->r=.far\/B.Fr a=none
 len:w.mu.length=S.length
 obj:∀(n:Nat) (ob:Ob),S[n]?=some ob->∃a,w.mu[n]?=some a/\zuU cl w n a ob
noncomputable abbrev Env:=List (Option (Bool×D))
structure Rel(cl:Cf)(B:Base)(σ:St)(w:Wd)(ρ:Env)(S:Sto):Prop where
 wd:World' cl B w S
 len:σ.length=ρ.length
 slots:∀(i:Nat) (o:Bool) (d:D),ρ[i]?=some (some (o,d))->∃v,σ[i]?=some (some v)/\zi0 cl w (.slot i) o v d
structure Grow(w w':Wd):Prop where
 keep:∀a o,w.H a=some o->w'.H a=some o/\w'.ow a=w.ow a
 new:∀a r,w'.ow a=some r->w.H a=none->w.ow a=some r\/r=.far
 mu:w'.mu=w.mu
def Grow.refl(w:Wd):Grow w w:=⟨fun _ _ h=>⟨h,rfl⟩,fun _ _ h _=>.inl h,rfl⟩
def Grow.fut(g:Grow w w'):Fut w w':=⟨fun a o h k=>⟨(g.keep a o h).1,(g.keep a o h).2.trans k⟩,fun n a h=>by rw[g.mu];exact h⟩
def World'.grow(W:World' cl B w S)(g:Grow w w'):World' cl B w' S where
 fr:=fun a o h=>by
  obtain⟨h1,h2⟩:=W.fr a o h;exact⟨(g.keep a o h1).1,(g.keep a o h1).2.trans h2⟩
 own:=fun a r h=>by
  cases e:w.H a with
  |none=>exact(g.new a r h e).elim (W.own a r) .inl|some o=>exact W.own a r (by rw[<-(g.keep a o e).2];exact h)
 len:=by rw[g.mu];exact W.len
 obj:=fun n ob h=>by
  obtain⟨a,e,x⟩:=W.obj n ob h;exact⟨a,by rw[g.mu];exact e,x.keep g.fut fun a o b _=>g.keep a o b⟩
theorem Rel.grow(R:Rel cl B σ w ρ S)(g:Grow w w'):Rel cl B σ w' ρ S where
 wd:=R.wd.grow g
 len:=R.len
 slots:=fun i o d h=>by
  obtain⟨v,e,x⟩:=R.slots i o d h;exact⟨v,e,x.keep g.fut fun a o b c=>⟨(g.keep a o b).1,(g.keep a o b).2.trans c⟩⟩
def Wd.add(w:Wd)(p:Addr)(o:HO):Wd:=⟨upd w.H p o,fun a=>if a=p then none else w.ow a,w.mu⟩
def zaC(h:w.H p=none)(o:HO):Grow w (w.add p o)where
 keep:=fun a u c=>by
  have n:a≠p:=zal c h;refine⟨?_,?_⟩
  ·show upd w.H p o a=_;rw[zai n];exact c
  ·show(if a=p then none else w.ow a)=_;rw[if_neg n]
 new:=fun a r h1 h2=>by
  have b:(if a=p then none else w.ow a)=some r:=h1;split at b
  ·cases b
  ·exact .inl b
 mu:=rfl
def ziZ{w:Wd}:(w.add p o).ow p=none:=if_pos rfl
def znA{w:Wd}:(w.add p o).H p=some o:=zan
def Shd.newT(h:w.H p=none)(r:Shds cl w xs ds):Shd cl (w.add p (.tup xs)) (.ref p) (.tup ds):=.tup znA ziZ (r.up (zaC h _).fut)
def Shd.newL(h:w.H p=none)(r:Shds cl w xs ds):Shd cl (w.add p (.lst xs)) (.ref p) (.lst ds):=.lst znA ziZ (r.up (zaC h _).fut)
def Shd.newO(h:w.H p=none)(r:Top cl w o d):Shd cl (w.add p o) (.ref p) d:=by
 have g:=(zaC h o).fut
 cases r with
 |lst r=>exact .lst znA ziZ (r.up g)|dicX x=>exact .dicX znA ziZ (x.up g)
set_option genInjectivity true in
inductive Out(α:Type)where
 |ok (a:α) (S:Sto)|exc (c:Str) (S:Sto)|bad
noncomputable abbrev Fe:=Env->Sto->Out D
set_option genInjectivity true in
inductive Fo where
 |nx (ρ:Env) (S:Sto)|rt (d:D) (S:Sto)|bk (ρ:Env) (S:Sto)|ct (ρ:Env) (S:Sto)|ex (c:Str) (ρ:Env) (S:Sto)|bad
noncomputable abbrev Fs:=Env->Sto->Fo
noncomputable def tE(cl:Cf)(E:St->XK)(f:Fe):TE:=fun σ H Q=>∃B w ρ S,w.H=H/\Rel cl B σ w ρ S/\match f ρ S with
 |.ok d S'=>∀v w',Rel cl B σ w' ρ S'->Fut w w'->Shd cl w' v d->Q v w'.H|.exc c S'=>∀w',Rel cl B σ w' ρ S'->Fut w w'->E σ (.ref (cl c)) none w'.H|.bad=>False
noncomputable def tN(cl:Cf)(E:St->XK)(f:Fe):TE:=fun σ H Q=>∃B w ρ S,w.H=H/\Rel cl B σ w ρ S/\match f ρ S with
 |.ok d S'=>∀p o w',Rel cl B σ w' ρ S'->Fut w w'->w'.H p=none->Top cl w' o d->Q (.ref p) (upd w'.H p o)|.exc c S'=>∀w',Rel cl B σ w' ρ S'->Fut w w'->E σ (.ref (cl c)) none w'.H|.bad=>False
noncomputable def Hd(cl:Cf)(σ:St)(ρ:Env)(w:Wd)(v:V)(d:D):Prop:=Shd cl w v d\/∃i:Nat,ρ[i]?=some (some (true,d))/\σ[i]?=some (some v)
noncomputable def tH(cl:Cf)(E:St->XK)(f:Fe):TE:=fun σ H Q=>∃B w ρ S,w.H=H/\Rel cl B σ w ρ S/\match f ρ S with
 |.ok d S'=>∀v w',Rel cl B σ w' ρ S'->Fut w w'->Hd cl σ ρ w' v d->Q v w'.H|.exc c S'=>∀w',Rel cl B σ w' ρ S'->Fut w w'->E σ (.ref (cl c)) none w'.H|.bad=>False
inductive TopV(cl:Cf)(w:Wd):V->D->Prop
 |sh {v:V}{d:D}:Shd cl w v d->TopV cl w v d
 |ow {a:Addr}{o:HO}{d:D}:w.H a=some o->Top cl w o d->TopV cl w (.ref a) d
def Hd.top(h:Hd cl σ ρ w v d)(R:Rel cl B σ w ρ S):TopV cl w v d:=by
 rcases h with h|⟨i,h1,h2⟩
 ·exact .sh h
 ·obtain⟨c,e,a,o,rfl,_,b,t⟩:=R.slots i true d h1;rw[h2]at e;cases e;exact .ow b t
theorem Hd.up(f:Fut w w')(h:Hd cl σ ρ w v d):Hd cl σ ρ w' v d:=by
 rcases h with h|h
 ·exact .inl (h.up f)
 ·exact .inr h
def PE.imp(h:PE X e t)(i:∀σ H Q,t' σ H Q->t σ H Q):PE X e t':=fun pins s σ H Q I q=>h pins s σ H Q I (i _ _ _ q)
def zvu(h:tE cl E f σ H Q):tN cl E f σ H Q:=by
 obtain⟨B,w,ρ,S,e,R,h⟩:=h;refine⟨B,w,ρ,S,e,R,?_⟩
 cases hf:f ρ S with
 |ok d S'=>
  rw[hf]at h;intro p o w' b g a t;exact h (.ref p) (w'.add p o) (b.grow (zaC a o)) (g.trans (zaC a o).fut) (Shd.newO a t)
 |exc c S'=>rwa[hf]at h|bad=>rwa[hf]at h
def zvt(h:tH cl E f σ H Q):tE cl E f σ H Q:=by
 obtain⟨B,w,ρ,S,e,R,h⟩:=h;refine⟨B,w,ρ,S,e,R,?_⟩
 cases hf:f ρ S with
 |ok d S'=>
  rw[hf]at h;intro v w' a b t;exact h v w' a b (.inl t)
 |exc c S'=>rwa[hf]at h|bad=>rwa[hf]at h
noncomputable def Out.bind{α β:Type}(o:Out α)(k:α->Sto->Out β):Out β:=match o with|.ok a S=>k a S|.exc c S=>.exc c S|.bad=>.bad
noncomputable def Out.of{α:Type}(o:Option α)(S:Sto):Out α:=match o with|some a=>.ok a S|none=>.bad
@[simp] def Out.bind_ok{α β:Type}(a:α)(S:Sto)(k:α->Sto->Out β):(Out.ok a S).bind k=k a S:=rfl
@[simp] def Out.bind_exc{α β:Type}(c:Str)(S:Sto)(k:α->Sto->Out β):(Out.exc c S:Out α).bind k=.exc c S:=rfl
@[simp] def Out.bind_bad{α β:Type}(k:α->Sto->Out β):(Out.bad:Out α).bind k=.bad:=rfl
@[simp] def Out.of_some{α:Type}(a:α)(S:Sto):Out.of (some a) S=.ok a S:=rfl
noncomputable def zaa(i:Nat):Fe:=fun ρ S=>match ρ[i]? with|some (~~~d)=>.ok d S|_=>.bad
noncomputable def zag(i:Nat):Fe:=fun ρ S=>match ρ[i]? with|some (some (_,d))=>.ok d S|_=>.bad
noncomputable def zad(d:D):Fe:=fun _ S=>.ok d S
def eUn(g:D->Option D)(f:Fe):Fe:=fun ρ S=>(f ρ S).bind fun a S1=>Out.of (g a) S1
def zaf(g:D->D->Option D)(f h:Fe):Fe:=fun ρ S=>(f ρ S).bind fun a S1=>(h ρ S1).bind fun b S2=>Out.of (g a b) S2
noncomputable def isB:D->Option Bool|.bl b=>some b|_=>none
def eIf(c f h:Fe):Fe:=fun ρ S=>(c ρ S).bind fun d S1=>match isB d with|some true=>f ρ S1|some false=>h ρ S1|none=>.bad
def zgB(f h:Fe):Fe:=fun ρ S=>(f ρ S).bind fun d S1=>match isB d with|some true=>h ρ S1|some false=>.ok (.bl false) S1|none=>.bad
def eOr(f h:Fe):Fe:=fun ρ S=>(f ρ S).bind fun d S1=>match isB d with|some true=>.ok (.bl true) S1|some false=>h ρ S1|none=>.bad
noncomputable def zeP:D->Option D|.bl b=>some (.bl (!b))|_=>none
def zap:List Fe->Env->Sto->Out (List D)
 |[],_,S=>.ok [] S|f::fs,ρ,S=>(f ρ S).bind fun d S1=>(zap fs ρ S1).bind fun ds S2=>.ok (d::ds) S2
noncomputable def zbh(n:Nat):Bool:=decide (n<=100000)
def zcg(fs:List Fe):Fe:=fun ρ S=>(zap fs ρ S).bind fun ds S1=>if zbh ds.length then .ok (.tup ds) S1 else .bad
def zee(fs:List Fe):Fe:=fun ρ S=>(zap fs ρ S).bind fun ds S1=>if zbh ds.length then .ok (.lst ds) S1 else .bad
def zax(g:List D->Option D)(fs:List Fe):Fe:=fun ρ S=>(zap fs ρ S).bind fun ds S1=>Out.of (g ds) S1
def zbm(h:zbh n=true):n<=sizeLine:=yak (yai h) (by decide)
noncomputable def zcb:Expr->Bool|.Starred _ _=>false|_=>true
def zbI(h:zcb e=true):starEach (e::es) env=(false,eval e env)::starEach es env:=by
 cases e<;>first|rfl|cases h
theorem zca:∀{es:List Expr},es.all zcb=true->(backTo pos (starEach es env)).any (·.1)=false
 |[],_=>rfl|e::es,h=>by
  rw[ybq,yab]at h;rw[zbI h.1];show(false||(backTo pos (starEach es env)).any (·.1))=false;rw[zca h.2];rfl
theorem ziv:∀{es:List Expr},es.all zcb=true->(backTo pos (starEach es env)).all (fun x=>!x.1)=true
 |[],_=>rfl|e::es,h=>by
  rw[ybq,yab]at h;rw[zbI h.1];show(true&&(backTo pos (starEach es env)).all (fun x=>!x.1))=true;rw[ziv h.2];rfl
def znc(h:es.all zcb=true)(I:es.length<30):((backTo pos (starEach es env)).all (fun x=>!x.1)&&(backToKw pos (keywordEach [] env)).all (fun x=>x.1.isSome)
   && decide (es.length+([]:List Keyword).length+(if([]:List Keyword).isEmpty then 0 else 1)<30))=true:=by
 rw[ziv h];show(true&&true&&decide (es.length+0+0<30))=true;simpa using I
noncomputable def Hds(cl:Cf)(σ:St)(ρ:Env)(w:Wd):List V->List D->Prop:=Paired (Hd cl σ ρ w)
noncomputable def znB(cl:Cf)(w:Wd):List V->List D->Prop:=Paired (TopV cl w)
theorem Hds.top(R:Rel cl B σ w ρ S):∀{vs:List V}{ds:List D},Hds cl σ ρ w vs ds->znB cl w vs ds
 |_,_,.nil=>.nil|_,_,.cons h t=>.cons (h.top R) (Hds.top R t)
noncomputable def tAs(cl:Cf)(E:St->XK)(fs:List Fe):TA:=fun σ H Q=>∃B w ρ S,w.H=H/\Rel cl B σ w ρ S/\match zap fs ρ S with
 |.ok ds S'=>∀vs w',Rel cl B σ w' ρ S'->Fut w w'->Shds cl w' vs ds->Q vs w'.H|.exc c S'=>∀w',Rel cl B σ w' ρ S'->Fut w w'->E σ (.ref (cl c)) none w'.H|.bad=>False
noncomputable def tHs(cl:Cf)(E:St->XK)(fs:List Fe):TA:=fun σ H Q=>∃B w ρ S,w.H=H/\Rel cl B σ w ρ S/\match zap fs ρ S with
 |.ok ds S'=>∀vs w',Rel cl B σ w' ρ S'->Fut w w'->Hds cl σ ρ w' vs ds->Q vs w'.H|.exc c S'=>∀w',Rel cl B σ w' ρ S'->Fut w w'->E σ (.ref (cl c)) none w'.H|.bad=>False
def PA.imp(h:PA X es t)(i:∀σ H Q,t' σ H Q->t σ H Q):PA X es t':=fun pos pins s σ H Q I q=>h pos pins s σ H Q I (i _ _ _ q)
def PT.imp(h:PT X e t)(i:∀σ H Q,t' σ H Q->t σ H Q):PT X e t':=fun pins s σ H Q I q=>h pins s σ H Q I (i _ _ _ q)
section
variable{X:Cx}{cl:Cf}{E:St->XK}{a b c e:Expr}{f h g:Fe}{pos:Pos}
def zsW(U:X.N[i]?=some x)(J:Vis X.env.scope x)(hd:(x==("__debug__":Str))=false)(I:(x==("__classdict__":Str))=false):PE X (.Name x pos) (tE cl E (zaa i)):=by
 refine PE.imp (za0 U J hd I) ?_;rintro σ H Q ⟨B,w,ρ,S,rfl,R,q⟩;unfold zaa at q;split at q
 ·rename_i o d S' hm;split at hm
  ·rename_i d' he;cases hm;obtain⟨v,e,r⟩:=R.slots i false d he;exact⟨v,e,q v w R (Fut.refl _) r⟩
  ·cases hm
 ·rename_i hm;split at hm<;>cases hm
 ·exact q.elim
def zs4(U:X.N[i]?=some x)(J:Vis X.env.scope x)(hd:(x==("__debug__":Str))=false)(I:(x==("__classdict__":Str))=false):PE X (.Name x pos) (tH cl E (zag i)):=by
 refine PE.imp (za0 U J hd I) ?_;rintro σ H Q ⟨B,w,ρ,S,rfl,R,q⟩;unfold zag at q;split at q
 ·rename_i o d S' hm;split at hm
  ·rename_i b d' he;cases hm;obtain⟨v,e,r⟩:=R.slots i b d he;refine⟨v,e,q v w R (Fut.refl _) ?_⟩
   cases b with
   |false=>exact .inl r|true=>exact .inr ⟨i,he,e⟩
  ·cases hm
 ·rename_i hm;split at hm<;>cases hm
 ·exact q.elim
def zlS(h:PE X e (tC v))(hd:∀w,Shd cl w v d):PE X e (tE cl E (zad d)):=by
 refine PE.imp h ?_;rintro σ H Q ⟨B,w,ρ,S,rfl,R,q⟩;exact q v w R (Fut.refl _) (hd w)
def zqE(h:PE X e (tE cl E f)):PE X e (tH cl E f):=PE.imp h fun _ _ _=>zvt
def zfS(h:PE X e (tN cl E f)):PE X e (tE cl E f):=PE.imp h fun _ _ _=>zvu
noncomputable def OpD(X:Cx)(cl:Cf)(op:Value->Value->Sem Value)(g:D->D->Option D):Prop:=OpR X op fun x y H Q=>∃w d e r,w.H=H/\TopV cl w x d/\TopV cl w y e/\g d e=some r/\∀v w',Grow w w'->Shd cl w' v r->Q v w'.H
noncomputable def UnD(X:Cx)(cl:Cf)(op:Value->Sem Value)(g:D->Option D):Prop:=UnR X op fun x H Q=>∃w d r,w.H=H/\TopV cl w x d/\g d=some r/\∀v w',Grow w w'->Shd cl w' v r->Q v w'.H
noncomputable def zlk(X:Cx)(cl:Cf)(I:Value)(g:List D->Option D):Prop:=zeC X I fun xs H Q=>∃w ds r,w.H=H/\znB cl w xs ds/\g ds=some r/\∀v w',Grow w w'->Shd cl w' v r->Q v w'.H
noncomputable def zrZ(X:Cx)(cl:Cf)(I:Value)(g:List D->Option D):Prop:=zeC X I fun xs H Q=>∃w ds r,w.H=H/\znB cl w xs ds/\g ds=some r/\∀p o w',Grow w w'->w'.H p=none->Top cl w' o r->Q (.ref p) (upd w'.H p o)
noncomputable def IxD(X:Cx)(cl:Cf)(g:D->D->Option D):Prop:=IxR X fun x y H Q=>∃w d e r,w.H=H/\TopV cl w x d/\TopV cl w y e/\g d e=some r/\∀v w',Grow w w'->Shd cl w' v r->Q v w'.H
def two(U:∀x y H Q,(∃w d e r,w.H=H/\TopV cl w x d/\TopV cl w y e/\I d e=some r/\∀v w',Grow w w'->Shd cl w' v r->Q v w'.H)->J x y H Q)(σ:St)(H:Hp)(Q:VK)(q:tE cl E (zaf I f h) σ H Q):tOp J (tH cl E f) (tH cl E h) σ H Q:=by
 obtain⟨B,w,ρ,S,rfl,R,q⟩:=q;refine⟨B,w,ρ,S,rfl,R,?_⟩;unfold zaf at q
 cases hf:f ρ S with
 |bad=>rwa[hf]at q|exc c S1=>rwa[hf]at q|ok d S1=>
  rw[hf]at q;intro v i k F1 h1;refine⟨B,i,ρ,S1,rfl,k,?_⟩;dsimp only[Out.bind]at q
  cases b:h ρ S1 with
  |bad=>rwa[b]at q|exc c S2=>rw[b]at q;exact fun a R2 F2=>q a R2 (F1.trans F2)|ok e S2=>
   rw[b]at q;intro y a R2 F2 h2;dsimp only at q
   cases g:I d e with
   |none=>rw[g]at q;exact q.elim|some r=>
    rw[g]at q;exact U _ _ _ _ ⟨a,d,e,r,rfl,(h1.up F2).top R2,h2.top R2,g,fun j w' gr sh=>q j w' (R2.grow gr) (F1.trans (F2.trans gr.fut)) sh⟩
def zs5(ho:OpD X cl (binaryOp op) U)(J:PE X a (tH cl E f))(I:PE X b (tH cl E h)):PE X (.BinOp a op b pos) (tE cl E (zaf U f h)):=
 PE.imp (zvQ ho J I) (two fun _ _ _ _ z=>z)
def zvF(ho:IxD X cl U)(J:PE X a (tH cl E f))(I:PE X b (tH cl E h))(hs:zhV b):PE X (.Subscript a b pos) (tE cl E (zaf U f h)):=
 PE.imp (ztA ho J I hs) (two fun _ _ _ _ z=>z)
def zs3(ho:OpD X cl (compareOp op) U)(J:PE X a (tH cl E f))(I:PE X b (tH cl E h))(hm:behindInMarks op b=false):PE X (.Compare a [op] [b] pos) (tE cl E (zaf U f h)):=
 PE.imp (zjh ho J I hm) (two fun _ _ _ _ z=>z)
def zvC(ho:UnD X cl (unaryOp op) I)(J:PE X a (tH cl E f)):PE X (.UnaryOp op a pos) (tE cl E (eUn I f)):=by
 refine PE.imp (zvO ho J) ?_;rintro σ H Q ⟨B,w,ρ,S,rfl,R,q⟩;refine⟨B,w,ρ,S,rfl,R,?_⟩;unfold eUn at q
 cases hf:f ρ S with
 |bad=>rwa[hf]at q|exc c S1=>rwa[hf]at q|ok d S1=>
  rw[hf]at q;intro v g e F1 h1;dsimp only[Out.bind]at q
  cases b:I d with
  |none=>rw[b]at q;exact q.elim|some r=>
   rw[b]at q;exact⟨g,d,r,rfl,h1.top e,b,fun h w' gr sh=>q h w' (e.grow gr) (F1.trans gr.fut) sh⟩
noncomputable def tTr(cl:Cf)(E:St->XK)(f:Fe):TT:=fun σ H Q=>∃B w ρ S,w.H=H/\Rel cl B σ w ρ S/\match f ρ S with
 |.ok d S'=>match isB d with
  |some b=>∀w',Rel cl B σ w' ρ S'->Fut w w'->Q b w'.H|none=>False
 |.exc c S'=>∀w',Rel cl B σ w' ρ S'->Fut w w'->E σ (.ref (cl c)) none w'.H|.bad=>False
def zd8{d:D}{b:Bool}(h:isB d=some b):d=.bl b:=by
 cases d<;>simp[isB]at h
 subst h;rfl
def zib{w:Wd}{v:V}{b:Bool}(h:Shd cl w v (.bl b)):v=.bl b:=by cases h;rfl
def zh6(q:tTr cl E f σ H Q):tB (tE cl E f) σ H Q:=by
 obtain⟨B,w,ρ,S,rfl,R,q⟩:=q;refine⟨B,w,ρ,S,rfl,R,?_⟩
 cases hf:f ρ S with
 |bad=>rwa[hf]at q|exc c S1=>rwa[hf]at q|ok d S1=>
  rw[hf]at q;intro v e g F1 h1;dsimp only at q
  cases a:isB d with
  |none=>rw[a]at q;exact q.elim|some b=>
   rw[a]at q;rw[zd8 a]at h1;exact⟨b,zib h1,q e g F1⟩
def zjL(h:PE X e (tE cl E f))(he:∀whole,isTrue e X.env whole=(do let v ← whole;standAt e.pos;holding [v] (truthy v))):PT X e (tTr cl E f):=
 PT.imp (zf5 h he) fun _ _ _ q=>zh6 q
def zlF(J:∀x y H Q,(∃w d e r,w.H=H/\TopV cl w x d/\TopV cl w y e/\U d e=some r/\∀v w',Grow w w'->Shd cl w' v r->Q v w'.H)->I x y H Q)(q:tTr cl E (zaf U f h) σ H Q):zqg (tOp I (tH cl E f) (tH cl E h)) σ H Q:=
 two J σ H _ (zh6 q)
def zsC(ho:OpD X cl (compareOp op) U)(J:PE X a (tH cl E f))(I:PE X b (tH cl E h))(hm:behindInMarks op b=false):PT X (.Compare a [op] [b] pos) (tTr cl E (zaf U f h)):=
 PT.imp (zjf ho J I hm) fun _ _ _ q=>zlF (fun _ _ _ _ z=>z) q
def PW.imp(h:PW X e t)(i:∀σ H Q,t' σ H Q->t σ H Q):PW X e t':=fun whole pins s σ H Q I q=>h whole pins s σ H Q I (i _ _ _ q)
def zqf(q:tTr cl E (zgB f h) σ H Q):zxt (tTr cl E f) (tTr cl E h) σ H Q:=by
 obtain⟨B,w,ρ,S,rfl,R,q⟩:=q;refine⟨B,w,ρ,S,rfl,R,?_⟩;unfold zgB at q
 cases hf:f ρ S with
 |bad=>rwa[hf]at q|exc c S1=>rwa[hf]at q|ok d S1=>
  rw[hf]at q;dsimp only[Out.bind]at q ⊢
  cases k:isB d with
  |none=>rw[k]at q;exact q.elim|some b=>
   rw[k]at q;intro j l F1
   cases b with
   |false=>exact zhE (q j l F1)|true=>
    refine zkh ⟨B,j,ρ,S1,rfl,l,?_⟩;dsimp only at q
    cases i:h ρ S1 with
    |bad=>rwa[i]at q|exc c S2=>rw[i]at q;exact fun g R2 F2=>q g R2 (F1.trans F2)|ok e S2=>
     rw[i]at q;dsimp only at q ⊢
     cases a:isB e with
     |none=>rw[a]at q;exact q.elim|some m=>rw[a]at q;exact fun g R2 F2=>q g R2 (F1.trans F2)
def zsm(q:tTr cl E (eOr f h) σ H Q):tOr (tTr cl E f) (tTr cl E h) σ H Q:=by
 obtain⟨B,w,ρ,S,rfl,R,q⟩:=q;refine⟨B,w,ρ,S,rfl,R,?_⟩;unfold eOr at q
 cases hf:f ρ S with
 |bad=>rwa[hf]at q|exc c S1=>rwa[hf]at q|ok d S1=>
  rw[hf]at q;dsimp only[Out.bind]at q ⊢
  cases k:isB d with
  |none=>rw[k]at q;exact q.elim|some b=>
   rw[k]at q;intro j l F1
   cases b with
   |true=>exact zkh (q j l F1)|false=>
    refine zhE ⟨B,j,ρ,S1,rfl,l,?_⟩;dsimp only at q
    cases i:h ρ S1 with
    |bad=>rwa[i]at q|exc c S2=>rw[i]at q;exact fun g R2 F2=>q g R2 (F1.trans F2)|ok e S2=>
     rw[i]at q;dsimp only at q ⊢
     cases a:isB e with
     |none=>rw[a]at q;exact q.elim|some m=>rw[a]at q;exact fun g R2 F2=>q g R2 (F1.trans F2)
def zqe(q:tTr cl E (eUn zeP f) σ H Q):zxr (tTr cl E f) σ H Q:=by
 obtain⟨B,w,ρ,S,rfl,R,q⟩:=q;refine⟨B,w,ρ,S,rfl,R,?_⟩;unfold eUn at q
 cases hf:f ρ S with
 |bad=>rwa[hf]at q|exc c S1=>rwa[hf]at q|ok d S1=>
  rw[hf]at q;dsimp only[Out.bind]at q ⊢
  cases a:isB d with
  |none=>
   have:zeP d=none:=by cases d<;>simp[isB]at a<;>rfl
   rw[this]at q;exact q.elim
  |some b=>
   rwa[zd8 a]at q
def zsA(I:PT X a (tTr cl E f)):PT X (.UnaryOp .Not a pos) (tTr cl E (eUn zeP f)):=PT.imp (ztj I) fun _ _ _ q=>zqe q
def zsw{zcd:List Expr}(J:PT X a (tTr cl E f))(I:PW X (.BoolOp .And (b::zcd) pos) (tTr cl E h)):PW X (.BoolOp .And (a::b::zcd) pos) (tTr cl E (zgB f h)):=PW.imp (zth J I) fun _ _ _ q=>zqf q
def zvy{zcd:List Expr}(J:PT X a (tTr cl E f))(I:PW X (.BoolOp .Or (b::zcd) pos) (tTr cl E h)):PW X (.BoolOp .Or (a::b::zcd) pos) (tTr cl E (eOr f h)):=PW.imp (zvK J I) fun _ _ _ q=>zsm q
def zs6{zcd:List Expr}(J:PE X a (tE cl E f))(I:PE X (.BoolOp .And (b::zcd) pos) (tE cl E h)):PE X (.BoolOp .And (a::b::zcd) pos) (tE cl E (zgB f h)):=by
 refine PE.imp (ztC J I) ?_;rintro σ H Q ⟨B,w,ρ,S,rfl,R,q⟩;refine⟨B,w,ρ,S,rfl,R,?_⟩;unfold zgB at q
 cases hf:f ρ S with
 |bad=>rwa[hf]at q|exc c S1=>rwa[hf]at q|ok d S1=>
  rw[hf]at q;intro v j k F1 h1;dsimp only[Out.bind]at q
  cases I:isB d with
  |none=>rw[I]at q;exact q.elim|some b=>
   rw[I]at q;rw[zd8 I]at h1;refine⟨b,zib h1,?_⟩
   cases b with
   |false=>exact zhE (q _ j k F1 (.bl false))|true=>
    refine zkh ⟨B,j,ρ,S1,rfl,k,?_⟩;dsimp only at q
    cases i:h ρ S1 with
    |bad=>rwa[i]at q|exc c S2=>rw[i]at q;exact fun g R2 F2=>q g R2 (F1.trans F2)|ok e S2=>rw[i]at q;exact fun v g R2 F2=>q v g R2 (F1.trans F2)
def zvE{zcd:List Expr}(J:PE X a (tE cl E f))(I:PE X (.BoolOp .Or (b::zcd) pos) (tE cl E h)):PE X (.BoolOp .Or (a::b::zcd) pos) (tE cl E (eOr f h)):=by
 refine PE.imp (zvP J I) ?_;rintro σ H Q ⟨B,w,ρ,S,rfl,R,q⟩;refine⟨B,w,ρ,S,rfl,R,?_⟩;unfold eOr at q
 cases hf:f ρ S with
 |bad=>rwa[hf]at q|exc c S1=>rwa[hf]at q|ok d S1=>
  rw[hf]at q;intro v j k F1 h1;dsimp only[Out.bind]at q
  cases I:isB d with
  |none=>rw[I]at q;exact q.elim|some b=>
   rw[I]at q;rw[zd8 I]at h1;refine⟨b,zib h1,?_⟩
   cases b with
   |true=>exact zkh (q _ j k F1 (.bl true))|false=>
    refine zhE ⟨B,j,ρ,S1,rfl,k,?_⟩;dsimp only at q
    cases i:h ρ S1 with
    |bad=>rwa[i]at q|exc c S2=>rw[i]at q;exact fun g R2 F2=>q g R2 (F1.trans F2)|ok e S2=>rw[i]at q;exact fun v g R2 F2=>q v g R2 (F1.trans F2)
def zsY(I:PE X a (tE cl E f)):PE X (.UnaryOp .Not a pos) (tE cl E (eUn zeP f)):=by
 refine PE.imp (ztz I) ?_;rintro σ H Q ⟨B,w,ρ,S,rfl,R,q⟩;refine⟨B,w,ρ,S,rfl,R,?_⟩;unfold eUn at q
 cases hf:f ρ S with
 |bad=>rwa[hf]at q|exc c S1=>rwa[hf]at q|ok d S1=>
  rw[hf]at q;intro v g h F1 h1;dsimp only[Out.bind]at q
  cases e:isB d with
  |none=>
   have:zeP d=none:=by cases d<;>simp[isB]at e<;>rfl
   rw[this]at q;exact q.elim
  |some b=>
   rw[zd8 e]at q h1;exact⟨b,zib h1,q _ g h F1 (.bl _)⟩
def zvv(q:tE cl E (eIf g f h) σ H Q):tIf (tTr cl E g) (tE cl E f) (tE cl E h) σ H Q:=by
 obtain⟨B,w,ρ,S,rfl,R,q⟩:=q;refine⟨B,w,ρ,S,rfl,R,?_⟩;unfold eIf at q
 cases j:g ρ S with
 |bad=>rwa[j]at q|exc c S1=>rwa[j]at q|ok d S1=>
  rw[j]at q;dsimp only[Out.bind]at q ⊢
  cases l:isB d with
  |none=>rw[l]at q;exact q.elim|some b=>
   rw[l]at q;intro k m F1
   cases b with
   |true=>
    refine zkh ⟨B,k,ρ,S1,rfl,m,?_⟩;dsimp only at q
    cases i:f ρ S1 with
    |bad=>rwa[i]at q|exc c S2=>rw[i]at q;exact fun a R2 F2=>q a R2 (F1.trans F2)|ok e S2=>rw[i]at q;exact fun v a R2 F2=>q v a R2 (F1.trans F2)
   |false=>
    refine zhE ⟨B,k,ρ,S1,rfl,m,?_⟩;dsimp only at q
    cases i:h ρ S1 with
    |bad=>rwa[i]at q|exc c S2=>rw[i]at q;exact fun a R2 F2=>q a R2 (F1.trans F2)|ok e S2=>rw[i]at q;exact fun v a R2 F2=>q v a R2 (F1.trans F2)
def zvG(I:PT X c (tTr cl E g))(U:PE X a (tE cl E f))(J:PE X b (tE cl E h)):PE X (.IfExp c a b pos) (tE cl E (eIf g f h)):=PE.imp (zoq I U J) fun _ _ _ q=>zvv q
def zid:PA X [] (tAs cl E []):=by
 refine PA.imp zaQ ?_;rintro σ H Q ⟨B,w,ρ,S,rfl,R,q⟩;exact q [] w R (Fut.refl _) .nil
def zfa(J:PE X e (tE cl E f))(I:PA X es (tAs cl E fs))(hs:starEach (e::es) X.env=(false,eval e X.env)::starEach es X.env):PA X (e::es) (tAs cl E (f::fs)):=by
 refine PA.imp (zam J I hs) ?_;rintro σ H Q ⟨B,w,ρ,S,rfl,R,q⟩;refine⟨B,w,ρ,S,rfl,R,?_⟩;unfold zap at q
 cases hf:f ρ S with
 |bad=>rwa[hf]at q|exc c S1=>rwa[hf]at q|ok d S1=>
  rw[hf]at q;intro v g h F1 h1;refine⟨B,g,ρ,S1,rfl,h,?_⟩;dsimp only[Out.bind]at q
  cases b:zap fs ρ S1 with
  |bad=>rwa[b]at q|exc c S2=>rw[b]at q;exact fun a R2 F2=>q a R2 (F1.trans F2)|ok ds S2=>
   rw[b]at q;exact fun vs a R2 F2 h2=>q _ a R2 (F1.trans F2) (.cons (h1.up F2) h2)
def zsT:PA X [] (tHs cl E []):=by
 refine PA.imp zaQ ?_;rintro σ H Q ⟨B,w,ρ,S,rfl,R,q⟩;exact q [] w R (Fut.refl _) .nil
def zqv(J:PE X e (tH cl E f))(I:PA X es (tHs cl E fs))(hs:starEach (e::es) X.env=(false,eval e X.env)::starEach es X.env):PA X (e::es) (tHs cl E (f::fs)):=by
 refine PA.imp (zam J I hs) ?_;rintro σ H Q ⟨B,w,ρ,S,rfl,R,q⟩;refine⟨B,w,ρ,S,rfl,R,?_⟩;unfold zap at q
 cases hf:f ρ S with
 |bad=>rwa[hf]at q|exc c S1=>rwa[hf]at q|ok d S1=>
  rw[hf]at q;intro v g h F1 h1;refine⟨B,g,ρ,S1,rfl,h,?_⟩;dsimp only[Out.bind]at q
  cases b:zap fs ρ S1 with
  |bad=>rwa[b]at q|exc c S2=>rw[b]at q;exact fun a R2 F2=>q a R2 (F1.trans F2)|ok ds S2=>
   rw[b]at q;exact fun vs a R2 F2 h2=>q _ a R2 (F1.trans F2) (.cons (h1.up F2) h2)
def zsX(h:PA X es (tAs cl E fs)):PE X (.Tuple es k pos) (tE cl E (zcg fs)):=by
 refine PE.imp (zpy h) ?_;rintro σ H Q ⟨B,w,ρ,S,rfl,R,q⟩;refine⟨B,w,ρ,S,rfl,R,?_⟩;unfold zcg at q
 cases hf:zap fs ρ S with
 |bad=>rwa[hf]at q|exc c S1=>rwa[hf]at q|ok ds S1=>
  rw[hf]at q;intro vs d e F1 h1;dsimp only[Out.bind]at q
  cases a:zbh ds.length with
  |false=>rw[a,if_neg (by decide)]at q;exact q.elim
  |true=>
   rw[a,if_pos rfl]at q;refine⟨by rw[h1.length];exact zbm a,fun p b=>?_⟩;exact q _ (d.add p (.tup vs)) (e.grow (zaC b _)) (F1.trans (zaC b _).fut) (Shd.newT b h1)
def zs0(h:PA X es (tAs cl E fs)):PE X (.List es pos) (tN cl E (zee fs)):=by
 refine PE.imp (zpz h) ?_;rintro σ H Q ⟨B,w,ρ,S,rfl,R,q⟩;refine⟨B,w,ρ,S,rfl,R,?_⟩;unfold zee at q
 cases hf:zap fs ρ S with
 |bad=>rwa[hf]at q|exc c S1=>rwa[hf]at q|ok ds S1=>
  rw[hf]at q;intro vs b e F1 h1;dsimp only[Out.bind]at q
  cases a:zbh ds.length with
  |false=>rw[a,if_neg (by decide)]at q;exact q.elim
  |true=>
   rw[a,if_pos rfl]at q;refine⟨by rw[h1.length];exact zbm a,fun p d=>?_⟩;exact q _ (.lst vs) b e F1 d (.lst h1)
def zss(J:∀xs H Q,(∃w ds r,w.H=H/\znB cl w xs ds/\I ds=some r/\∀v w',Grow w w'->Shd cl w' v r->Q v w'.H)->r xs H Q)(q:tE cl E (zax I fs) σ H Q):tCB r (tHs cl E fs) σ H Q:=by
 obtain⟨B,w,ρ,S,rfl,R,q⟩:=q;refine⟨B,w,ρ,S,rfl,R,?_⟩;unfold zax at q
 cases hf:zap fs ρ S with
 |bad=>rwa[hf]at q|exc c S1=>rwa[hf]at q|ok ds S1=>
  rw[hf]at q;intro vs e b F1 h1;dsimp only[Out.bind]at q
  cases a:I ds with
  |none=>rw[a]at q;exact q.elim|some d=>
   rw[a]at q;exact J _ _ _ ⟨e,ds,d,rfl,h1.top b,a,fun v w' gr sh=>q v w' (b.grow gr) (F1.trans gr.fut) sh⟩
def zsr(J:∀xs H Q,(∃w ds r,w.H=H/\znB cl w xs ds/\I ds=some r/\∀p o w',Grow w w'->w'.H p=none->Top cl w' o r->Q (.ref p) (upd w'.H p o))->r xs H Q)(q:tN cl E (zax I fs) σ H Q):tCB r (tHs cl E fs) σ H Q:=by
 obtain⟨B,w,ρ,S,rfl,R,q⟩:=q;refine⟨B,w,ρ,S,rfl,R,?_⟩;unfold zax at q
 cases hf:zap fs ρ S with
 |bad=>rwa[hf]at q|exc c S1=>rwa[hf]at q|ok ds S1=>
  rw[hf]at q;intro vs e b F1 h1;dsimp only[Out.bind]at q
  cases a:I ds with
  |none=>rw[a]at q;exact q.elim|some d=>
   rw[a]at q;exact J _ _ _ ⟨e,ds,d,rfl,h1.top b,a,fun p o w' gr f t=>q p o w' (b.grow gr) (F1.trans gr.fut) f t⟩
end
noncomputable def Root.out:Option Root->Option Root|some (.slot _)=>some .far|o=>o
def Root.out_none:Root.out o=none↔o=none:=by
 cases o with
 |none=>exact⟨fun h=>h,fun h=>h⟩|some r=>cases r<;>simp[Root.out]
noncomputable def zgh:Option Root->Bool|some (.fld _ _)=>true|some (.obj _)=>true|_=>false
def Wd.inn(w:Wd):Wd:=⟨w.H,fun a=>Root.out (w.ow a),w.mu⟩
def Wd.base(w:Wd):Base:=⟨fun a=>if zgh (w.ow a)=true then none else w.H a,fun a=>Root.out (w.ow a)⟩
def Wd.back(w w':Wd):Wd:=⟨w'.H,fun a=>if(w.base.Fr a).isSome=true then w.ow a else Root.out (w'.ow a),w'.mu⟩
def zcW(w:Wd):Fut w w.inn:=⟨fun a o h k=>⟨h,by show Root.out (w.ow a)=none;rw[k];rfl⟩,fun _ _ h=>h⟩
def ziY{w:Wd}(h:w.H a=some o)(k:zgh (w.ow a)=false):w.base.Fr a=some o:=by
 show(if zgh (w.ow a)=true then none else w.H a)=_;rw[k,if_neg (by decide)];exact h
def zrd{w:Wd}(h:w.base.Fr a=some o):w.H a=some o/\zgh (w.ow a)=false:=by
 have h':(if zgh (w.ow a)=true then none else w.H a)=some o:=h;split at h'
 ·cases h'
 ·rename_i z;exact⟨h',by simpa using z⟩
section
variable{cl:Cf}{B:Base}{σ:St}{w w':Wd}{ρ:Env}{S S':Sto}
def World'.enter(W:World' cl B w S):World' cl w.base w.inn S where
 fr:=fun a o h=>⟨(zrd h).1,rfl⟩
 own:=fun a r h=>by
  have h':Root.out (w.ow a)=some r:=h
  cases e:w.ow a with
  |none=>rw[e]at h';cases h'|some q=>
   cases q with
   |slot i=>rw[e]at h';cases h';exact .inl rfl|far=>rw[e]at h';cases h';exact .inl rfl|fld n f=>exact .inr (by show(if zgh (w.ow a)=true then none else w.H a)=none;rw[e];rfl)
   |obj n=>exact .inr (by show(if zgh (w.ow a)=true then none else w.H a)=none;rw[e];rfl)
 len:=W.len
 obj:=fun n ob h=>by
  obtain⟨a,e,x⟩:=W.obj n ob h;refine⟨a,e,x.keep (zcW w) fun a o c b=>⟨c,?_⟩⟩;show Root.out (w.ow a)=w.ow a
  cases e:w.ow a with
  |none=>rfl|some q=>cases q with
   |slot i=>rw[e]at b;exact b.elim|_=>rfl
def zeA(W:World' cl B w S)(h:B.Fr a=some o):w.base.Fr a=some o:=by
 refine ziY (W.fr a o h).1 ?_
 cases e:w.ow a with
 |none=>rfl|some q=>
  rcases W.own a q e with rfl|z
  ·rfl
  ·rw[h]at z;cases z
def zea(I:World' cl w.base w' S'):Fut w' (w.back w')where
 keep:=fun a o h k=>by
  refine⟨h,?_⟩;show(if(w.base.Fr a).isSome=true then w.ow a else Root.out (w'.ow a))=none;split
  ·rename_i z;obtain⟨u,b⟩:=Option.isSome_iff_exists.mp z;have:=(I.fr a u b).2;rw[k]at this;exact Root.out_none.mp this.symm
  ·rw[k];rfl
 mu:=fun _ _ h=>h
def Rel.leave(R:Rel cl B σ w ρ S)(I:World' cl w.base w' S')(F:Fut w.inn w'):Rel cl B σ (w.back w') ρ S'/\Fut w (w.back w'):=by
 have fb:=zea I;have j:Fut w (w.back w'):=(zcW w).trans (F.trans fb)
 have in_:∀a o,w.base.Fr a=some o->(w.back w').H a=some o/\(w.back w').ow a=w.ow a:=fun a o h=>by
  refine⟨(I.fr a o h).1,?_⟩;show(if(w.base.Fr a).isSome=true then w.ow a else _)=_;rw[h];rfl
 refine⟨⟨⟨fun a o h=>?_,fun a r h=>?_,I.len,fun n ob h=>?_⟩,R.len,fun i o d h=>?_⟩,j⟩
 ·have:=in_ a o (zeA R.wd h);exact⟨this.1,this.2.trans (R.wd.fr a o h).2⟩
 ·cases g:B.Fr a with
  |none=>exact .inr rfl|some o=>
   have:=(in_ a o (zeA R.wd g)).2;rw[h]at this
   rcases R.wd.own a r this.symm with z|z
   ·exact .inl z
   ·rw[g]at z;cases z
 ·obtain⟨a,e,x⟩:=I.obj n ob h;refine⟨a,e,x.keep fb fun a o c b=>⟨c,?_⟩⟩;show(if(w.base.Fr a).isSome=true then w.ow a else Root.out (w'.ow a))=_
  cases e:w'.ow a with
  |none=>rw[e]at b;exact b.elim|some q=>
   rcases I.own a q e with rfl|z
   ·rw[e]at b;exact b.elim
   ·rw[z]
    cases q with
    |slot i=>rw[e]at b;exact b.elim|_=>rfl
 ·obtain⟨v,e,x⟩:=R.slots i o d h;refine⟨v,e,x.keep j fun a u c f=>?_⟩;have:=in_ a u (ziY c (by rw[f];rfl));exact⟨this.1,this.2.trans f⟩
noncomputable def Wd.del(w:Wd)(a:Addr):Wd:=⟨fun b=>if b=a then none else w.H b,w.ow,w.mu⟩
def zjn(k:w.ow a≠none):Fut w (w.del a)where
 keep:=fun b o h e=>⟨by
  show(if b=a then none else w.H b)=_
  rw[if_neg (fun z=>k (by rw[<-z];exact e))];exact h,e⟩
 mu:=fun _ _ h=>h
def zlv(h:w.H a=some o):upd (w.del a).H a o=w.H:=by
 funext b
 by_cases e:b=a
 ·rw[e,zan,h]
 ·rw[zai e];show(if b=a then none else w.H b)=_;rw[if_neg e]
theorem Rel.del(R:Rel cl B σ w ρ S)(k:w.ow a=some .far)(I:B.Fr a=none):Rel cl B σ (w.del a) ρ S:=by
 have fd:Fut w (w.del a):=zjn (by rw[k];exact yaE _)
 have kp:∀b o,w.H b=some o->b≠a->(w.del a).H b=some o:=fun b o h n=>by
  show(if b=a then none else w.H b)=_;rw[if_neg n];exact h
 refine⟨⟨fun b o h=>⟨kp b o (R.wd.fr b o h).1 (fun z=>by rw[z,I]at h;cases h),(R.wd.fr b o h).2⟩,R.wd.own,R.wd.len,fun n ob h=>?_⟩,R.len,fun i o d h=>?_⟩
 ·obtain⟨c,e,x⟩:=R.wd.obj n ob h;exact⟨c,e,x.keep fd fun b o f j=>⟨kp b o f (fun z=>by rw[z,k]at j;exact j.elim),rfl⟩⟩
 ·obtain⟨v,e,x⟩:=R.slots i o d h;exact⟨v,e,x.keep fd fun b o f g=>⟨kp b o f (fun z=>by rw[z,k]at g;cases g),g⟩⟩
end
noncomputable def zyx(cl:Cf)(w:Wd):Bool->V->D->Prop
 |false,v,d=>Shd cl w v d|true,v,d=>∃a o i,v=.ref a/\w.ow a=some (.slot i)/\w.H a=some o/\Top cl w o d
noncomputable def zgA(cl:Cf)(n:Nat)(own:Bool)(G:List D->Sto->Out D):Sp:=fun vs H Q E=>vs.length=n/\∃B w ds S,w.H=H/\World' cl B w S/\Shds cl w vs ds/\match G ds S with
 |.ok d S'=>∀v w',World' cl B w' S'->Fut w w'->zyx cl w' own v d->Q v w'.H|.exc c S'=>∀w',World' cl B w' S'->Fut w w'->E (.ref (cl c)) none w'.H|.bad=>False
noncomputable def zdy(CX:CXT)(X:Cx)(E:St->XK):Prop:=∀(pins:Z3) (σ:St) (H:Hp) (s:Shared) (e:Value) (s':Shared),Inv X pins σ H s->CX X.stack H s (E σ) e s'->X.xe e s'
noncomputable def zgQ(sp:Sp)(dvs:List V)(E:St->XK)(t:TA):TE:=fun σ H Q=>t σ H fun vs H1=>sp (vs++dvs) H1 Q (E σ)
section
variable{X:Cx}{CX:CXT}{k:Nat}{f C:Addr}{fd:FuncData}{ps:List Str}{sp:Sp}{dvs:List V}{ds:List Value}{E:St->XK}{x m:Str}{p pos apos:Pos}{e o:Expr}{es:List Expr}{ta:TE}{t:TA}
def zhq(F:FnOk X.prog X.w X.K X.mg X.base CX k f fd ps sp)(U:Room k X.A)(hb:zbz X.K fd ps ds)(hd:Vals dvs ds)(J:zdy CX X E)
  (I:Inv X pins σ H s) (r:Vals vs us) (h:sp (vs++dvs) H Q (E σ)):wpAny (model X.prog X.w) X.A (call (.ref f) us) (EP X pins σ Q) X.xe s:=by
 have b:Vals (vs++dvs) (us++ds):=r.append hd
 have c:(us++ds).length=ps.length:=by rw[<-b.length];exact F.len _ _ _ _ h
 refine wpAny_call (ycR (F.run X.A X.stack s H ⟨us,[]⟩ (us++ds) (vs++dvs) Q (E σ) U I.env0 (hb s us I.kIn c) b h) fun r s' a=>?_)
 cases r with
 |error e=>exact J pins σ H s e s' I a|ok d=>
  cases d with
  |ret u=>exact I.after a|next=>exact False.elim a|brk=>exact False.elim a|cont=>exact False.elim a
def zj4(F:FnOk X.prog X.w X.K X.mg X.base CX k f fd ps sp)(hr:Room k X.A)(hg:Gl X x)(hm:X.mg x=some (.ref f))(hk:PySem.W.keepIn X.K (.ref f)=true)(hb:zbz X.K fd ps ds)(hd:Vals dvs ds)(U:zdy CX X E)
  (ha:PA X (e::es) t) (J:(x==("__debug__":Str))=false) (he:starEach (e::es) X.env=(false,eval e X.env)::starEach es X.env) (ah:(backTo pos (starEach es X.env)).any (·.1)=false):
  PE X (.Call (.Name x p) (e::es) [] pos) (zgQ sp dvs E t):=by
 intro pins s σ H Q I h;refine ybJ (zeo I hg hm ?_ J);refine ycz (h₀:=X.base) I.ok.mod.kin hk (thn (ha pos pins s σ H _ I h) fun us s1 ⟨vs,H1,a,r,q⟩=>⟨a.kIn,?_⟩) he ah;exact zhq F hr hb hd U a r q
def zmt(F:FnOk X.prog X.w X.K X.mg X.base CX k f fd ps sp)(hr:Room k X.A)(hg:Gl X x)(hm:X.mg x=some (.ref f))(hk:PySem.W.keepIn X.K (.ref f)=true)(hb:zbz X.K fd ps ds)(hd:Vals dvs ds)(U:zdy CX X E)
  (J:(x==("__debug__":Str))=false):PE X (.Call (.Name x p) [] [] pos) (zgQ sp dvs E zll):=by
 intro pins s σ H Q I h;refine ybJ (zeo I hg hm ?_ J);exact PySem.W.callWith_K0 I.kIn hk (zhq (us:=[]) F hr hb hd U I .nil h)
end
def eFn(G:List D->Sto->Out D)(fs:List Fe):Fe:=fun ρ S=>(zap fs ρ S).bind fun ds S1=>G ds S1
section
variable{cl:Cf}{E:St->XK}{fs:List Fe}{G:List D->Sto->Out D}{σ:St}{H:Hp}{Q:VK}{n:Nat}
def zuL(q:tE cl E (eFn G fs) σ H Q)(I:fs.length=n):zgQ (zgA cl n false G) [] E (tAs cl E fs) σ H Q:=by
 obtain⟨B,w,ρ,S,rfl,R,q⟩:=q;refine⟨B,w,ρ,S,rfl,R,?_⟩;unfold eFn at q
 cases hf:zap fs ρ S with
 |bad=>rwa[hf]at q|exc c S1=>rwa[hf]at q|ok ds S1=>
  rw[hf]at q;intro vs a j F1 h1;dsimp only[Out.bind]at q
  have m:∀(fs:List Fe) (S S1:Sto) (ds:List D),zap fs ρ S=.ok ds S1->ds.length=fs.length:=by
   intro fs
   induction fs with
   |nil=>intro S S1 ds h;cases h;rfl|cons f fs l=>
    intro S S1 ds h;unfold zap at h
    cases h1:f ρ S with
    |bad=>rw[h1]at h;cases h|exc c S2=>rw[h1]at h;cases h|ok d S2=>
     rw[h1]at h;dsimp only[Out.bind]at h
     cases h2:zap fs ρ S2 with
     |bad=>rw[h2]at h;cases h|exc c o=>rw[h2]at h;cases h|ok es o=>rw[h2]at h;cases h;rw[yar,yar,l S2 _ es h2]
  refine⟨by rw[ya3,h1.length,m fs S S1 ds hf];exact I,a.base,a.inn,ds,S1,rfl,j.wd.enter,by rw[ya3];exact h1.up (zcW a),?_⟩
  cases g:G ds S1 with
  |bad=>rwa[g]at q|exc c S2=>
   rw[g]at q;intro e b F2;obtain⟨i,F3⟩:=j.leave b F2;exact q (a.back e) i (F1.trans F3)
  |ok d S2=>
   rw[g]at q;intro v e b F2 k;obtain⟨i,F3⟩:=j.leave b F2;exact q v (a.back e) i (F1.trans F3) (Shd.up (zea b) k)
def zuK(q:tN cl E (eFn G fs) σ H Q)(I:fs.length=n):zgQ (zgA cl n true G) [] E (tAs cl E fs) σ H Q:=by
 obtain⟨B,w,ρ,S,rfl,R,q⟩:=q;refine⟨B,w,ρ,S,rfl,R,?_⟩;unfold eFn at q
 cases hf:zap fs ρ S with
 |bad=>rwa[hf]at q|exc c S1=>rwa[hf]at q|ok ds S1=>
  rw[hf]at q;intro vs b k F1 h1;dsimp only[Out.bind]at q
  have s:∀(fs:List Fe) (S S1:Sto) (ds:List D),zap fs ρ S=.ok ds S1->ds.length=fs.length:=by
   intro fs
   induction fs with
   |nil=>intro S S1 ds h;cases h;rfl|cons f fs r=>
    intro S S1 ds h;unfold zap at h
    cases h1:f ρ S with
    |bad=>rw[h1]at h;cases h|exc c S2=>rw[h1]at h;cases h|ok d S2=>
     rw[h1]at h;dsimp only[Out.bind]at h
     cases h2:zap fs ρ S2 with
     |bad=>rw[h2]at h;cases h|exc c y=>rw[h2]at h;cases h|ok es y=>rw[h2]at h;cases h;rw[yar,yar,r S2 _ es h2]
  refine⟨by rw[ya3,h1.length,s fs S S1 ds hf];exact I,b.base,b.inn,ds,S1,rfl,k.wd.enter,by rw[ya3];exact h1.up (zcW b),?_⟩
  cases l:G ds S1 with
  |bad=>rwa[l]at q|exc c S2=>
   rw[l]at q;intro e j F2;obtain⟨m,F3⟩:=k.leave j F2;exact q (b.back e) m (F1.trans F3)
  |ok d S2=>
   rw[l]at q;intro v e j F2 p;obtain⟨m,F3⟩:=k.leave j F2;obtain⟨a,o,i,rfl,k1,k2,t⟩:=p;have g:b.base.Fr a=none:=(j.own a _ k1).elim (fun z=>by cases z) fun z=>z
   have k3:(b.back e).ow a=some .far:=by
    show(if(b.base.Fr a).isSome=true then b.ow a else Root.out (e.ow a))=_;rw[g,k1];rfl
   have x:B.Fr a=none:=by
    cases z:B.Fr a with
    |none=>rfl|some u=>rw[zeA k.wd z]at g;cases g
   have hd:=zjn (w:=b.back e) (a:=a) (by rw[k3];exact yaE _);have:=q a o ((b.back e).del a) (m.del k3 x) (F1.trans (F3.trans hd)) (if_pos rfl) ((t.up (zea j)).up hd);rwa[zlv (w:=b.back e) k2]at this
end
noncomputable def frz1(ρ:Env)(i:Nat):Env:=match ρ[i]? with|some (some (true,d))=>ρ.set i (~~~d)|_=>ρ
def frz(is:List Nat)(ρ:Env):Env:=is.foldl frz1 ρ
def sFz(is:List Nat)(f:Fs):Fs:=fun ρ S=>f (frz is ρ) S
noncomputable def sNx:Fs:=fun ρ S=>.nx ρ S
noncomputable def sBk:Fs:=fun ρ S=>.bk ρ S
noncomputable def zac(f g:Fs):Fs:=fun ρ S=>match f ρ S with|.nx a S'=>g a S'|o=>o
noncomputable def zbd(i:Nat)(own:Bool)(f:Fe):Fs:=fun ρ S=>match f ρ S with|.ok d S'=>.nx (ρ.set i (some (own,d))) S'|.exc c S'=>.ex c ρ S'|.bad=>.bad
noncomputable def zjS(f:Fe):Fs:=fun ρ S=>match f ρ S with|.ok _ S'=>.nx ρ S'|.exc c S'=>.ex c ρ S'|.bad=>.bad
noncomputable def zaJ(f:Fe):Fs:=fun ρ S=>match f ρ S with|.ok d S'=>.rt d S'|.exc c S'=>.ex c ρ S'|.bad=>.bad
noncomputable def zgE(i:Nat):Fs:=fun ρ S=>match ρ[i]? with|some (some (true,d))=>.rt d S|_=>.bad
def sIf(c:Fe)(f g:Fs):Fs:=fun ρ S=>match c ρ S with|.ok d S'=>(match isB d with|some true=>f ρ S'|some false=>g ρ S'|none=>.bad)|.exc x S'=>.ex x ρ S'|.bad=>.bad
noncomputable def zhb(cl:Cf)(E:St->XK)(own:Bool)(B:Base)(w:Wd)(De:Ends):Fo->Prop
 |.nx b S'=>∀a w',Rel cl B a w' b S'->Fut w w'->De.nx a w'.H|.bk b S'=>∀a w',Rel cl B a w' b S'->Fut w w'->De.bk a w'.H|.ct b S'=>∀a w',Rel cl B a w' b S'->Fut w w'->De.ct a w'.H|.rt d S'=>∀v w',World' cl B w' S'->Fut w w'->zyx cl w' own v d->De.rt v w'.H|.ex c b S'=>∀a w',Rel cl B a w' b S'->Fut w w'->E a (.ref (cl c)) none w'.H|.bad=>False
theorem zhb.up(f:Fut w I):∀{o:Fo},zhb cl E own B w De o->zhb cl E own B I De o
 |.nx _ _,h=>fun a w' R F=>h a w' R (f.trans F)|.bk _ _,h=>fun a w' R F=>h a w' R (f.trans F)|.ct _ _,h=>fun a w' R F=>h a w' R (f.trans F)|.rt _ _,h=>fun v w' R F=>h v w' R (f.trans F)|.ex _ _ _,h=>fun a w' R F=>h a w' R (f.trans F)|.bad,h=>h
noncomputable def tS(cl:Cf)(E:St->XK)(own:Bool)(f:Fs):TS:=fun De σ H=>∃B w ρ S,w.H=H/\Rel cl B σ w ρ S/\zhb cl E own B w De (f ρ S)
def PS.imp{X:Cx}{st:Stmt}{t t':TS}(h:PS X st t)(i:∀De σ H,t' De σ H->t De σ H):PS X st t':=fun pins s σ H De I q=>h pins s σ H De I (i _ _ _ q)
def PSs.imp{X:Cx}{st:List Stmt}{t t':TS}(h:PSs X st t)(i:∀De σ H,t' De σ H->t De σ H):PSs X st t':=fun pins s σ H De I q=>h pins s σ H De I (i _ _ _ q)
section
variable{cl:Cf}{B:Base}{σ:St}{w:Wd}{ρ:Env}{S:Sto}
def Rel.put(R:Rel cl B σ w ρ S)(h:Shd cl w v d):Rel cl B (σ.set i (some v)) w (ρ.set i (~~~d)) S where
 wd:=R.wd
 len:=by rw[yau,yau];exact R.len
 slots:=fun j o e b=>by
  by_cases c:i=j
  ·subst c
   have a:i<ρ.length:=by
    have:=(yal.mp b).1;rwa[yau]at this
   rw[yam a]at b;cases b;exact⟨v,by rw[yam (by rw[R.len];exact a)],h⟩
  ·rw[yax c]at b ⊢;exact R.slots j o e b
def Wd.addAs(w:Wd)(p:Addr)(o:HO)(r:Root):Wd:=⟨upd w.H p o,fun a=>if a=p then some r else if w.ow a=some r then some .far else w.ow a,w.mu⟩
def zcy(h:w.H p=none):Fut w (w.addAs p o r)where
 keep:=fun a u c b=>by
  have n:a≠p:=zal c h;refine⟨?_,?_⟩
  ·show upd w.H p o a=_;rw[zai n];exact c
  ·show(if a=p then some r else if w.ow a=some r then some Root.far else w.ow a)=none;rw[if_neg n,if_neg (by rw[b];exact fun z=>by cases z)];exact b
 mu:=fun _ _ h=>h
theorem Rel.own(R:Rel cl B σ w ρ S)(I:w.H p=none)(t:Top cl w o d):Rel cl B (σ.set i (some (.ref p))) (w.addAs p o (.slot i)) (ρ.set i (some (true,d))) S:=by
 have q:=zcy (w:=w) (p:=p) (o:=o) (r:=.slot i) I
 have kp:∀a u,w.H a=some u->w.ow a≠some (.slot i)->(w.addAs p o (.slot i)).H a=some u/\(w.addAs p o (.slot i)).ow a=w.ow a:=fun a u k C=>by
  have n:a≠p:=zal k I;refine⟨?_,?_⟩
  ·show upd w.H p o a=_;rw[zai n];exact k
  ·show(if a=p then _ else if w.ow a=some (Root.slot i)then some Root.far else w.ow a)=_;rw[if_neg n,if_neg C]
 have m:B.Fr p=none:=by
  cases z:B.Fr p with
  |none=>rfl|some u=>have:=(R.wd.fr p u z).1;rw[I]at this;cases this
 refine⟨⟨fun a u h=>?_,fun a r h=>?_,R.wd.len,fun n ob h=>?_⟩,by rw[yau,yau];exact R.len,fun j b e g=>?_⟩
 ·have l:w.ow a≠some (.slot i):=fun z=>by
   rcases R.wd.own a _ z with y|y
   ·cases y
   ·rw[h]at y;cases y
  have:=kp a u (R.wd.fr a u h).1 l;exact⟨this.1,this.2.trans (R.wd.fr a u h).2⟩
 ·have h':(if a=p then some (Root.slot i)else if w.ow a=some (Root.slot i)then some Root.far else w.ow a)=some r:=h;split at h'
  ·rename_i e;rw[e];exact .inr m
  ·split at h'
   ·cases h';exact .inl rfl
   ·exact R.wd.own a r h'
 ·obtain⟨a,e,x⟩:=R.wd.obj n ob h;exact⟨a,e,x.keep q fun b u D A=>kp b u D fun z=>by rwa[z]at A⟩
 ·by_cases c:i=j
  ·subst c
   have f:i<ρ.length:=by
    have:=(yal.mp g).1;rwa[yau]at this
   rw[yam f]at g;cases g;exact⟨.ref p,by rw[yam (by rw[R.len];exact f)],p,o,rfl,if_pos rfl,zan,t.up q⟩
  ·rw[yax c]at g ⊢;obtain⟨v,E,x⟩:=R.slots j b e g;refine⟨v,E,x.keep q fun a u k s=>?_⟩;have:=kp a u k (by rw[s];exact fun z=>c (by cases z;rfl));exact⟨this.1,this.2.trans s⟩
def Wd.mut(w:Wd)(p:Addr)(o:HO):Wd:=⟨upd w.H p o,w.ow,w.mu⟩
def zdj(h:w.ow p≠none):Fut w (w.mut p o)where
 keep:=fun a u c b=>⟨by
  show upd w.H p o a=_
  rw[zai (fun z=>h (by rw[<-z];exact b))];exact c,b⟩
 mu:=fun _ _ h=>h
theorem Rel.mut{i:Nat}{p:Addr}{o:HO}{d d0:D}(R:Rel cl B σ w ρ S)(hs:σ[i]?=some (some (.ref p)))(I:w.ow p=some (.slot i))(t:Top cl w o d):Rel cl B σ (w.mut p o) (ρ.set i (some (true,d))) S:=by
 have q:=zdj (w:=w) (p:=p) (o:=o) (by rw[I];exact yaE _)
 have kp:∀a u,w.H a=some u->w.ow a≠some (.slot i)->(w.mut p o).H a=some u/\(w.mut p o).ow a=w.ow a:=fun a u m k=>⟨by
  show upd w.H p o a=_
  rw[zai (fun z=>k (by rw[z];exact I))];exact m,rfl⟩
 have A:B.Fr p=none:=(R.wd.own p _ I).elim (fun z=>by cases z) fun z=>z
 refine⟨⟨fun a u h=>?_,R.wd.own,R.wd.len,fun n ob h=>?_⟩,by rw[yau];exact R.len,fun j b e f=>?_⟩
 ·have g:w.ow a≠some (.slot i):=fun z=>by
   rcases R.wd.own a _ z with y|y
   ·cases y
   ·rw[h]at y;cases y
  have:=kp a u (R.wd.fr a u h).1 g;exact⟨this.1,(R.wd.fr a u h).2⟩
 ·obtain⟨a,e,x⟩:=R.wd.obj n ob h;exact⟨a,e,x.keep q fun b u s k=>kp b u s fun z=>by rwa[z]at k⟩
 ·by_cases c:i=j
  ·subst c
   have l:i<ρ.length:=by
    have:=(yal.mp f).1;rwa[yau]at this
   rw[yam l]at f;cases f;exact⟨.ref p,hs,p,o,rfl,I,zan,t.up q⟩
  ·rw[yax c]at f;obtain⟨v,C,x⟩:=R.slots j b e f;refine⟨v,C,x.keep q fun a u m r=>?_⟩;have:=kp a u m (by rw[r];exact fun z=>c (by cases z;rfl));exact⟨this.1,this.2.trans r⟩
noncomputable def Wd.free(w:Wd)(r:Root):Wd:=⟨w.H,fun a=>if w.ow a=some r then none else w.ow a,w.mu⟩
def zoW:Fut w (w.free r)where
 keep:=fun a u c b=>⟨c,by
  show(if w.ow a=some r then none else w.ow a)=none
  rw[b];rfl⟩
 mu:=fun _ _ h=>h
theorem Top.shd(h:w.H a=some o)(k:w.ow a=none):Top cl w o d->Shd cl w (.ref a) d
 |.lst t=>.lst h k t|.dicX x=>.dicX h k x
theorem Rel.frz1(R:Rel cl B σ w ρ S)(i:Nat):∃w',w'.H=w.H/\Fut w w'/\Rel cl B σ w' (frz1 ρ i) S:=by
 unfold S2.frz1;split
 ·rename_i d hd;have g:=zoW (w:=w) (r:=.slot i);have kp:∀a u,w.H a=some u->w.ow a≠some (.slot i)->(w.free (.slot i)).H a=some u/\(w.free (.slot i)).ow a=w.ow a:=fun a u p l=>⟨p,if_neg l⟩
  refine⟨w.free (.slot i),rfl,g,⟨fun a u h=>?_,fun a r h=>?_,R.wd.len,fun n ob h=>?_⟩,by rw[yau];exact R.len,fun j b e f=>?_⟩
  ·have k:w.ow a≠some (.slot i):=fun z=>by
    rcases R.wd.own a _ z with y|y
    ·cases y
    ·rw[h]at y;cases y
   have:=kp a u (R.wd.fr a u h).1 k;exact⟨this.1,this.2.trans (R.wd.fr a u h).2⟩
  ·have h':(if w.ow a=some (Root.slot i)then none else w.ow a)=some r:=h;split at h'
   ·cases h'
   ·exact R.wd.own a r h'
  ·obtain⟨a,e,x⟩:=R.wd.obj n ob h;exact⟨a,e,x.keep g fun b u A l=>kp b u A fun z=>by rwa[z]at l⟩
  ·by_cases c:i=j
   ·subst c;have m:i<ρ.length:=(yal.mp hd).1;rw[yam m]at f;cases f;obtain⟨v,q,a,o,rfl,h1,h2,t⟩:=R.slots i true d hd;refine⟨.ref a,q,(t.up g).shd h2 ?_⟩;show(if w.ow a=some (Root.slot i)then none else w.ow a)=none;rw[if_pos h1]
   ·rw[yax c]at f;obtain⟨v,q,x⟩:=R.slots j b e f;refine⟨v,q,x.keep g fun a u p s=>?_⟩;have:=kp a u p (by rw[s];exact fun z=>c (by cases z;rfl));exact⟨this.1,this.2.trans s⟩
 ·exact⟨w,rfl,Fut.refl _,R⟩
theorem Rel.frz:∀(is:List Nat) {w:Wd}{ρ:Env},Rel cl B σ w ρ S->∃w',w'.H=w.H/\Fut w w'/\Rel cl B σ w' (frz is ρ) S
 |[],w,ρ,R=>⟨w,rfl,Fut.refl _,R⟩|i::is,w,ρ,R=>by
  obtain⟨e,c,f1,d⟩:=R.frz1 i;obtain⟨a,b,f2,R2⟩:=Rel.frz is d;exact⟨a,b.trans c,f1.trans f2,R2⟩
end
section
variable{X:Cx}{cl:Cf}{E:St->XK}{own:Bool}{st:Stmt}{zcd:List Stmt}{f g:Fs}{e:Expr}{fe:Fe}{pos pos':Pos}
def zvA(is:List Nat)(h:PS X st (tS cl E own f)):PS X st (tS cl E own (sFz is f)):=by
 refine PS.imp h ?_;rintro De σ H ⟨B,w,ρ,S,rfl,R,q⟩;obtain⟨w',b,a,c⟩:=R.frz is;exact⟨B,w',frz is ρ,S,b,c,zhb.up a q⟩
def zsF:PSs X [] (tS cl E own sNx):=by
 refine PSs.imp zen ?_;rintro De σ H ⟨B,w,ρ,S,rfl,R,q⟩;exact q σ w R (Fut.refl _)
def zlJ(h1:PS X st (tS cl E own f))(h2:PSs X zcd (tS cl E own g)):PSs X (st::zcd) (tS cl E own (zac f g)):=by
 refine PSs.imp (zb7 h1 h2) ?_;rintro De σ H ⟨B,w,ρ,S,rfl,R,q⟩;refine⟨B,w,ρ,S,rfl,R,?_⟩;unfold zac at q
 cases hf:f ρ S with
 |nx a S'=>
  rw[hf]at q;intro b w' e h;exact⟨B,w',a,S',rfl,e,zhb.up h q⟩
 |bk a S'=>rwa[hf]at q|ct a S'=>rwa[hf]at q|rt d S'=>rwa[hf]at q|ex c a S'=>rwa[hf]at q|bad=>rwa[hf]at q
def zsJ:PS X (.Break pos) (tS cl E own sBk):=by
 refine PS.imp zof ?_;rintro De σ H ⟨B,w,ρ,S,rfl,R,q⟩;exact q σ w R (Fut.refl _)
def zwF(q:tS cl E own (zbd i false fe) De σ H):zpn (tE cl E fe) (zgn i) De σ H:=by
 obtain⟨B,w,ρ,S,rfl,R,q⟩:=q;refine⟨B,w,ρ,S,rfl,R,?_⟩;unfold zbd at q
 cases hf:fe ρ S with
 |bad=>rwa[hf]at q|exc c S1=>rw[hf]at q;exact fun w' a b=>q σ w' a b|ok d S1=>
  rw[hf]at q;intro v w' a b h';exact q _ w' (a.put h') b
def zuR(q:tS cl E own (zbd i true fe) De σ H):zpn (tN cl E fe) (zgn i) De σ H:=by
 obtain⟨B,w,ρ,S,rfl,R,q⟩:=q;refine⟨B,w,ρ,S,rfl,R,?_⟩;unfold zbd at q
 cases hf:fe ρ S with
 |bad=>rwa[hf]at q|exc c S1=>rw[hf]at q;exact fun w' a b=>q σ w' a b|ok d S1=>
  rw[hf]at q;intro p o w' a b e t;exact q _ (w'.addAs p o (.slot i)) (a.own e t) (b.trans (zcy e))
def zsL(J:X.N.Nodup)(hi:X.N[i]?=some x)(I:Loc X.env.scope x)(he:PE X e (tE cl E fe))(hs:swapsWith e (some (.Name x pos')) pos.line X.env=pure false)(hf:X.fn x=true\/X.env.scope.names.lookup x=some .local):PS X (.Assign [.Name x pos'] e pos) (tS cl E own (zbd i false fe)):=
 PS.imp (zis J hi I he hs hf) fun _ _ _ q=>zwF q
def zlK(J:X.N.Nodup)(hi:X.N[i]?=some x)(I:Loc X.env.scope x)(he:PE X e (tN cl E fe))(hs:swapsWith e (some (.Name x pos')) pos.line X.env=pure false)(hf:X.fn x=true\/X.env.scope.names.lookup x=some .local):PS X (.Assign [.Name x pos'] e pos) (tS cl E own (zbd i true fe)):=
 PS.imp (zis J hi I he hs hf) fun _ _ _ q=>zuR q
def zsI(he:PE X e (tE cl E fe))(hs:swapsWith e none pos.line X.env=pure false):PS X (.Expr e pos) (tS cl E own (zjS fe)):=by
 refine PS.imp (zcU he hs) ?_;rintro De σ H ⟨B,w,ρ,S,rfl,R,q⟩;refine⟨B,w,ρ,S,rfl,R,?_⟩;unfold zjS at q
 cases hf:fe ρ S with
 |bad=>rwa[hf]at q|exc c S1=>rw[hf]at q;exact fun w' a b=>q σ w' a b|ok d S1=>rw[hf]at q;exact fun v w' a b _=>q σ w' a b
def zsD(he:PE X e (tE cl E fe)):PS X (.Return (some e) pos) (tS cl E false (zaJ fe)):=by
 refine PS.imp (zgX he) ?_;rintro De σ H ⟨B,w,ρ,S,rfl,R,q⟩;refine⟨B,w,ρ,S,rfl,R,?_⟩;unfold zaJ at q
 cases hf:fe ρ S with
 |bad=>rwa[hf]at q|exc c S1=>rw[hf]at q;exact fun w' a b=>q σ w' a b|ok d S1=>rw[hf]at q;exact fun v w' a b h'=>q v w' a.wd b h'
def zqk(he:PE X e (tN cl E fe)):PS X (.Return (some e) pos) (tS cl E true (zaJ fe)):=by
 refine PS.imp (zgX he) ?_;rintro De σ H ⟨B,w,ρ,S,rfl,R,q⟩;refine⟨B,w,ρ,S,rfl,R,?_⟩;unfold zaJ at q
 cases hf:fe ρ S with
 |bad=>rwa[hf]at q|exc c S1=>rw[hf]at q;exact fun w' a b=>q σ w' a b|ok d S1=>
  rw[hf]at q;intro p o w' a b f t;have g:=zcy (w:=w') (p:=p) (o:=o) (r:=.slot 0) f;exact q (.ref p) (w'.addAs p o (.slot 0)) (Rel.own (i:=0) a f t).wd (b.trans g) ⟨p,o,0,rfl,if_pos rfl,zan,t.up g⟩
def zqj(U:X.N[i]?=some x)(J:Vis X.env.scope x)(hd:(x==("__debug__":Str))=false)(I:(x==("__classdict__":Str))=false):PS X (.Return (some (.Name x pos')) pos) (tS cl E true (zgE i)):=by
 refine PS.imp (zgX (za0 U J hd I)) ?_;rintro De σ H ⟨B,w,ρ,S,rfl,R,q⟩;unfold zgE at q;split at q
 ·rename_i d hd;obtain⟨v,b,a,o,rfl,h1,h2,t⟩:=R.slots i true d hd;exact⟨_,b,q _ w R.wd (Fut.refl _) ⟨a,o,i,rfl,h1,h2,t⟩⟩
 ·exact q.elim
def zvz(J:PT X c (tTr cl E fc))(U:PSs X a (tS cl E own f))(I:PSs X b (tS cl E own g)):PS X (.If c a b pos) (tS cl E own (sIf fc f g)):=by
 refine PS.imp (zjg J U I) ?_;rintro De σ H ⟨B,w,ρ,S,rfl,R,q⟩;refine⟨B,w,ρ,S,rfl,R,?_⟩;unfold sIf at q
 cases e:fc ρ S with
 |bad=>rwa[e]at q|exc c S1=>rw[e]at q;exact fun w' j k=>q σ w' j k|ok d S1=>
  rw[e]at q;dsimp only at q ⊢
  cases I:isB d with
  |none=>rw[I]at q;exact q.elim|some b=>
   rw[I]at q;intro h i F1
   cases b with
   |true=>exact zkh ⟨B,h,ρ,S1,rfl,i,zhb.up F1 q⟩|false=>exact zhE ⟨B,h,ρ,S1,rfl,i,zhb.up F1 q⟩
end
def zif(i:Nat)(fe:Fe):Fs:=fun ρ S=>match ρ[i]? with
 |some (some (true,.lst l))=>(match fe ρ S with
  |.ok d S'=>if zbh l.length then .nx (ρ.set i (some (true,.lst (l++[d])))) S' else .bad
  |.exc c S'=>.ex c ρ S'|.bad=>.bad)
 |_=>.bad
section
variable{X:Cx}{cl:Cf}{E:St->XK}{own:Bool}{e:Expr}{fe:Fe}{pos pos':Pos}
def zfF(h:zbh n=true):n<sizeLine:=ycC (yai h) (by decide)
def Rel.list(R:Rel cl B σ w ρ S)(h:ρ[i]?=some (some (true,.lst l))):∃a xs,σ[i]?=some (some (.ref a))/\w.ow a=some (.slot i)/\w.H a=some (.lst xs)/\Shds cl w xs l:=by
 obtain⟨v,b,a,o,rfl,h1,h2,t⟩:=R.slots i true _ h
 cases t with
 |lst t=>exact⟨a,_,b,h1,h2,t⟩
def zsM(hN:X.N[i]?=some x)(U:Vis X.env.scope x)(hd:(x==("__debug__":Str))=false)(J:(x==("__classdict__":Str))=false)(he:PE X e (tE cl E fe))
  (ah:zcb e=true) (I:(ap.endLine==cp.line)=true):PS X (.Expr (.Call (.Attribute (.Name x pos') "append" ap) [e] [] cp) pos) (tS cl E own (zif i fe)):=by
 refine PS.imp (zcU (zkT (es:=[]) yaY ybs ybt zdR (za0 hN U hd J) (zam he zaQ (zbI ah)) (hfew:=znc (by simp[ah]) (by simp)) (aa:=I) (hs:=zbI ah) (aj:=rfl))) ?_;rintro De σ H ⟨B,w,ρ,S,rfl,R,q⟩;unfold zif at q;split at q
 ·rename_i l o;obtain⟨a,xs,m,h1,h2,t⟩:=R.list o;refine⟨_,m,.inl ⟨rfl,_,SqL.of h2⟩,B,w,ρ,S,rfl,R,?_⟩
  cases hf:fe ρ S with
  |bad=>rwa[hf]at q|exc c S1=>rw[hf]at q;exact fun w' h n=>q σ w' h n|ok d S1=>
   rw[hf]at q;intro v w' h n h';dsimp only at q
   cases j:zbh l.length with
   |false=>rw[j,if_neg (by decide)]at q;exact q.elim
   |true=>
    rw[j,if_pos rfl]at q;obtain⟨p,b,g,f,k,t'⟩:=h.list o;rw[m]at g;cases g;refine⟨a,b,v,rfl,rfl,k,by rw[t'.length];exact zfF j,?_⟩;exact q σ (w'.mut a (.lst (b++[v]))) (h.mut (d0:=.non) m f (.lst (t'.append (.cons h' .nil)))) (n.trans (zdj (by rw[f];exact yaE _)))
 ·exact q.elim
end
end S2
namespace L2
open PySem PySem.Spec PyProof.Rows
section
variable{prog:Program}{w:World}{A:Around}{E:Z5}{s:Shared}
def znJ{it t:Addr}{j:Nat}{vs:Array Value}{v:Value}{Q:Z5}(st:s.heap.IsTupleIter it t j)(tp:s.heap.IsTuple t vs)(e:vs[j]?=some v)
  (q:∀h',h'.IsTupleIter it t (j+1)->Heap.SameBut it s.heap h'->Q v {s with heap:=h'}):wpAny (model prog w) A (Builtin.SmallTypes.nextOf (.ref it)) Q E s:=by
 obtain⟨b,g1,c1,d1⟩:=id st;obtain⟨a,g2,_,n2,d2⟩:=tp;unfold Builtin.SmallTypes.nextOf;refine yaa (yaX (name:=Str.ofString "__next__") st.typeIs ybD (ya0 ybD st.typeIs F.entry_tuple_iterator_next ?_ (F.args_tuple_iterator_next_1 _)));show wpAny _ _ (field (.ref it) 0 >>= _) _ _ s;refine yaa (ybB g1 d1 (x:=.ref t) rfl ?_);show wpAny _ _ (if(Value.ref t==Value.none)=true then _ else _) _ _ s;rw[if_neg (show ¬ ((Value.ref t==Value.none)=true)from fun z=>yaS z)];show wpAny _ _ (field (.ref it) 1 >>= _) _ _ s;refine yaa (ybB g1 d1 (x:=.int j 0) rfl ?_);show wpAny _ _ (seqItems? (.ref t) >>= _) _ _ s;refine yaa (yb6 g2 d2 ?_);simp only[yaO,e];refine yaa (ydh g1 d1 (by simp) (yae ⟨v,rfl,yae (q _ ?_ (Heap.SameBut.update ..))⟩));refine⟨_,ycc _ g1 (Obj.isFreed_of_fields (ycD d1 _)),(Obj.cls_mapFields ..).trans c1,?_⟩;rw[ycD d1];simp[rawInt]
def zlx{it t:Addr}{j:Nat}{vs:Array Value}{Q:Z5}(I:A.handled=none)(st:s.heap.IsTupleIter it t j)(tp:s.heap.IsTuple t vs)(e:vs[j]?=none)
  (q:∀h' x,Heap.ExtBut it s.heap h'->(∃o,h'.get? x=some o/\o.cls=.type "StopIteration")->E (.ref x) {s with heap:=h'}):wpAny (model prog w) A (Builtin.SmallTypes.nextOf (.ref it)) Q E s:=by
 obtain⟨c,g1,c1,d1⟩:=id st;obtain⟨b,g2,_,n2,d2⟩:=tp;unfold Builtin.SmallTypes.nextOf;refine yaa (yaX (name:=Str.ofString "__next__") st.typeIs ybD (ya0 ybD st.typeIs F.entry_tuple_iterator_next ?_ (F.args_tuple_iterator_next_1 _)));show wpAny _ _ (field (.ref it) 0 >>= _) _ _ s;refine yaa (ybB g1 d1 (x:=.ref t) rfl ?_);show wpAny _ _ (if(Value.ref t==Value.none)=true then _ else _) _ _ s;rw[if_neg (show ¬ ((Value.ref t==Value.none)=true)from fun z=>yaS z)];show wpAny _ _ (field (.ref it) 1 >>= _) _ _ s;refine yaa (ybB g1 d1 (x:=.int j 0) rfl ?_);show wpAny _ _ (seqItems? (.ref t) >>= _) _ _ s;refine yaa (yb6 g2 d2 ?_);simp only[yaO,e];refine yaa (ydi (yaa (ydh g1 d1 (by simp) ?_)));show wpAny _ _ (newExc (.type "StopIteration") [] >>= _) _ _ _;refine yaa ?_;simp only[newExc,newTuple];refine yaa (yaU ?_ (by size_fits));refine yaa (m:=firstArgMember _ _) (wpAny_of_eq (a:=Value.none) ?_ ?_)
 ·first|rfl|(simp only[firstArgMember];rfl)
 refine yaU ?_ (by size_fits);simp only[raiseNew];refine yaa (wpAny_handled ?_)
 first|rw[show A.in1.handled=none from I]|rw[I]
 refine yaa (yae (wpAny_throw (q _ _ (((Heap.SameBut.update ..).extBut.push _).push _) ⟨_,yaq _ rfl,rfl⟩)))
def ziM(I:A.handled=none)(it t:Addr)(ne:t≠it)(vs:Array Value):Draws prog w A it [it,t] vs.size (fun j v=>vs[j]?=some v) (fun j h=>h.IsTupleIter it t j/\h.IsTuple t vs)where
 live:=fun _ _ st=>by obtain⟨⟨o,a,_⟩,_⟩:=st;exact⟨o,a⟩
 frame:=fun _ _ _ st d=>⟨st.1.at fun o e=>d it (by simp) o e,by obtain⟨o,a,r⟩:=st.2;exact⟨o,d t (by simp) o a,r⟩⟩
 item:=fun j s Q E f st g=>znJ st.1 st.2 (v:=vs[j]) (by simp[f]) fun h' b c=>g _ h' s.toks (by simp[f]) ⟨b,by obtain⟨o,a,r⟩:=st.2;exact⟨o,(c.2 t ne).trans a,r⟩⟩ c
 done:=fun s Q E st i=>zlx I st.1 st.2 (by simp) i
def ziK(l:Addr)(items:Array Value)(n:Nat)(I:Option Addr)(sl:Array (Option Value)):
  Meets (Builtin.«enumerate.__new__» ⟨[.type "enumerate",.ref l],[]⟩) (fun _ R s=>s.heap.get? l=some {cls:=.type "tuple",dict:=I,data:=.seq items n,slots:=sl} ∧
   R (.ok (.ret (.ref (s.heap.push {cls:=.type "tuple_iterator",data:=.fields #[.ref l,.int 0 0]}).objs.size)))
    {s with heap:=(s.heap.push {cls:=.type "tuple_iterator",data:=.fields #[.ref l,.int 0 0]}).push {cls:=.type "enumerate",data:=.fields #[.none,.bool false,.ref s.heap.objs.size,rawInt 0,.none,.none]}}):=
 .of_wp fun prog w A R s h=>by
  obtain⟨f,g,d,tk,os⟩:=s;obtain⟨a,h⟩:=h;have b:=sub_enumerate;have e:Heap.IsTuple (Shared.heap ⟨f,g,d,tk,os⟩) l items:=⟨_,a,rfl,n,rfl⟩
  wp_walk using ycu a
  refine wpAny_stack_any fun st=>yae ?_
  split
  ·rename_i c _ _ _ _ _
   cases (c==Value.type "enumerate")<;>(wp_walk using ycu a,ycx e;exact⟨_,rfl,h⟩)
  ·wp_walk using ycu a,ycx e;exact⟨_,rfl,h⟩
def zhS{l:Addr}{items:Array Value}{Q:Z5}(I:s.heap.IsTuple l items)
  (h:∀h',IsEnum h' (s.heap.objs.size+1) s.heap.objs.size 0 .none->h'.IsTupleIter s.heap.objs.size l 0->h'.objs.size=s.heap.objs.size+2->(∀b o,s.heap.get? b=some o->h'.get? b=some o)->Q (.ref (s.heap.objs.size+1)) {s with heap:=h'}):
  wpAny (model prog w) A (call (.type "enumerate") [.ref l]) Q E s:=by
 obtain⟨⟨c,d,i,f⟩,g,e,n,hd⟩:=I;simp only at e hd;subst e hd;refine callType_new F.called_enumerate (by decide) (F.typeCall_enumerate_1 _) (F.newCall_enumerate_1 _) (fun obj=>F.args_object_init_2 obj _) F.entry_enumerate_new (ziK l items n d f) ⟨g,?_⟩;generalize hp1:s.heap.push {cls:=.type "tuple_iterator",data:=.fields #[.ref l,.int 0 0]}=h1
 have a:h1.objs.size=s.heap.objs.size+1:=by rw[<-hp1];exact ya6 ..
 have k1:∀b o,s.heap.get? b=some o->h1.get? b=some o:=fun b o x=>by rw[<-hp1];exact yac _ x
 have i1:h1.get? s.heap.objs.size=some {cls:=.type "tuple_iterator",data:=.fields #[.ref l,.int 0 0]}:=by rw[<-hp1];exact yaq _ rfl
 show _/\_;rw[a]
 have he:IsEnum (h1.push {cls:=.type "enumerate",data:=.fields #[.none,.bool false,.ref s.heap.objs.size,rawInt 0,.none,.none]}) (s.heap.objs.size+1) s.heap.objs.size 0 .none:=by
  rw[<-a];exact yaq _ rfl
 exact⟨⟨_,he,rfl⟩,h _ he ⟨_,yac _ i1,rfl,rfl⟩ (by rw[ya6,a]) fun b o x=>yac _ (k1 b o x)⟩
end
section
variable{X:Cx}{pins:Z3}{σ:St}{H:Hp}{s:Shared}
def Inv.turnedL{t':Nat}{h':Heap}{ch:List Addr}(I:Inv X pins σ H s)(k:∀b o,b ∉ ch->s.heap.get? b=some o->h'.get? b=some o)(hf:∀b∈ch,znD X pins H b):Inv X pins σ H {s with heap:=h',toks:=t'}:=by
 have d:∀b u,H b=some u->b ∉ ch:=fun b u e z=>by rw[(hf b z).1]at e;cases e
 refine I.step (g':=s.gens) (d':=s.drawn) (ch:=ch) (fun b g=>?_) (fun b o _ _ a e _=>k b o a e) (fun b o _ _ a e _=>⟨o.slots,k b o a e⟩) (fun _ _ _ _ n=>n) (fun b o a e=>⟨o,k b o a e⟩) (fun _ _ e=>e) (fun _ _ _ e=>e) (fun b ps e=>⟨#[],by rw[e];simp⟩) (fun m hm=>?_) (fun b u e=>?_) I.bare
 ·obtain⟨l,f1,f2,j,i,h⟩:=hf b g;exact⟨j,f1,i,h⟩
 ·obtain⟨o,es,ep,f,r⟩:=hm;exact⟨o,es,ep,k _ o (fun z=>(hf _ z).2.1 rfl) f,r⟩
 ·refine(I.hok b u e).stay (fun c v a q=>k c v ?_ q) (fun _ q=>q) fun _ _ q=>q
  rcases a with z|z
  ·rw[z];exact d b u e
  ·exact d c _ z
noncomputable def ItE(S:Hp->Addr->List V->Prop)(a:Addr):It:=
 ⟨fun i H=>∃xs x,S H a xs/\xs[i]?=some x,fun i H x H'=>∃t y,x=.ref t/\H t=none/\H'=upd H t (.tup [.int (i:Int),y])/\∀xs,S H a xs->xs[i]?=some y,fun i H=>∃xs,S H a xs/\xs.length<=i⟩
def zks{i:Nat}{e it T:Addr}{h1 h2:Heap}{tk:Nat}{x:Value}{y:V}(I:Inv X pins σ H s)(hf:∀b∈[e,it],znD X pins H b)(J:T=s.heap.objs.size)(te:h1.get? T=some {cls:=.type "tuple",data:=.seq #[.int i tk,x]})
  (k:∀b o,b≠e->b≠it->s.heap.get? b=some o->h1.get? b=some o) (U:Heap.SameBut e h1 h2) (ne:T≠e) (ry:zbu y x):Inv X pins σ (upd H T (.tup [.int (i:Int),y])) {s with heap:=h2,toks:=tk+1}/\H T=none:=by
 have fr:H T=none:=by rw[J];exact I.hok.fresh (yag _)
 refine⟨?_,fr⟩
 have g:Inv X pins σ H {s with heap:=h2,toks:=tk+1}:=I.turnedL (ch:=[e,it]) (fun b o a q=>by
  simp only[yan,yaM,ybY,not_or]at a
  exact(U.2 b a.1).trans (k b o a.1 a.2 q)) hf
 refine g.track fr (by rw[J];exact I.sz) (by rw[J];exact yaQ I.lt) (fun z c q=>?_) (fun p d=>?_) ?_
 ·obtain⟨v,f⟩:=I.cell z c q;rw[J];exact yaz f.lt
 ·rw[J];exact yaz (yao (I.pin p d).1)
 ·refine⟨by show 2<=sizeLine;decide,[.int i tk,x],.cons ⟨tk,rfl⟩ (.cons ry .nil),?_⟩;exact⟨_,(U.2 T ne).trans te,rfl,_,rfl⟩
def zkH{P:Program}{K:PySem.W.Frag}(a it e:Addr)(J:e≠it):Turn P w K (.Tuple elts x1 pos) (ItE (SqL K) a) [e,it] e (fun i h=>(∃old,IsEnum h e it (i:Int) old)/\h.IsListIter it a i)where
 mem:=by simp
 obj:=fun i h st b f=>by
  obtain⟨⟨old,he⟩,o,t,c,d⟩:=st;simp only[yan,yaM,ybY]at f
  rcases f with rfl|rfl
  ·exact⟨_,he,fun v z=>by cases z⟩
  ·exact⟨o,t,fun v z=>by rw[d]at z;cases z⟩
 keep:=fun i h h' st k=>by
  obtain⟨⟨old,he⟩,hi⟩:=st;exact⟨⟨old,k e (by simp) _ he⟩,hi.at fun o q=>k it (by simp) o q⟩
 item:=by
  intro X D n F L i pins s σ H E I hf st B;subst D n F;obtain⟨xs,x,g,m⟩:=B;obtain⟨⟨old,he⟩,hi⟩:=st;obtain⟨l,j,p,O⟩:=I.list g;obtain⟨u,R,M⟩:=j.get m;refine wpAny_pyNext_enum_item he hi p.isList (x:=u) (by simpa using R) J fun h1 t A r N k1=>?_
  have neT:s.heap.objs.size≠e:=yaQ (yao he);refine⟨_,rfl,wpAny_letOwnedTupleGo_enum t fun h2 C G=>?_⟩;obtain⟨Z,fr⟩:=zks (h2:=h2) (y:=x) I hf rfl r k1 G neT M;refine⟨.ref s.heap.objs.size,_,Z,rfl,⟨_,x,rfl,fr,rfl,fun ys Q=>by rw[I.list_inj Q g];exact m⟩,⟨⟨u,by simpa using C⟩,A.at fun o q=>(G.2 it (Ne.symm J)).trans q⟩,fun b f=>?_⟩;rw[zai]
  ·exact(hf b f).1
  ·rintro rfl;simp only[yan,yaM,ybY]at f
   rcases f with z|z
   ·exact neT z
   ·obtain⟨o,q,_⟩:=hi;exact absurd (yao q) (by rw[<-z];exact yaW _)
 done:=by
  intro X D n F L i pins s σ H E I hf st B;subst D n F;obtain⟨xs,g,m⟩:=B;obtain⟨⟨old,he⟩,hi⟩:=st;obtain⟨l,j,p,O⟩:=I.list g;have hl:=j.length;obtain⟨V,f1,f2,U,T,S⟩:=hf it (by simp);exact wpAny_pyNext_enum_end (I.ok.hd L) he hi p.isList (by simp;omega) fun h' Y=>⟨rfl,I.turned (t':=s.toks) (fun b o f q=>Y b o f q) V f1 U T S⟩
 self:=fun _ _ _ _ _ st h=>by
  obtain⟨⟨old,he⟩,_⟩:=st;exact ycP he h
def zkG{P:Program}{K:PySem.W.Frag}(a it e:Addr)(J:e≠it):Turn P w K (.Tuple elts x1 pos) (ItE (SqT K) a) [e,it] e (fun i h=>(∃old,IsEnum h e it (i:Int) old)/\h.IsTupleIter it a i)where
 mem:=by simp
 obj:=fun i h st b g=>by
  obtain⟨⟨old,he⟩,o,m,c,d⟩:=st;simp only[yan,yaM,ybY]at g
  rcases g with rfl|rfl
  ·exact⟨_,he,fun v z=>by cases z⟩
  ·exact⟨o,m,fun v z=>by rw[d]at z;cases z⟩
 keep:=fun i h h' st k=>by
  obtain⟨⟨old,he⟩,hi⟩:=st;exact⟨⟨old,k e (by simp) _ he⟩,hi.at fun o q=>k it (by simp) o q⟩
 item:=by
  intro X Z M hK Y i pins s σ H E I hf st S;subst Z M hK;obtain⟨xs,x,n,L⟩:=S;obtain⟨⟨old,he⟩,hi⟩:=st;obtain⟨f,B,p,hz⟩:=I.tuple n;obtain⟨u,hu,ru⟩:=B.get L
  have Q:i<f.toArray.size:=by
   have:=(yal.mp hu).1;simpa using this
  have l:a≠it:=by
   rintro rfl;obtain⟨o,q,c,_⟩:=hi;obtain⟨o2,j,r,_⟩:=id p;rw[q]at j;cases j;rw[c]at r;simp at r
  have C:e ∉ [it,a]:=by
   simp only[yan,yaM,ybY,not_or];refine⟨J,?_⟩;rintro rfl;obtain⟨o2,j,r,_⟩:=id p;rw[he]at j;cases j;simp at r
  refine wpAny_pyNext_enum_itemD (D:=ziM (A:=X.A.in1) (I.ok.hd Y) it a l f.toArray) he ⟨hi,show s.heap.IsTuple a f.toArray from p⟩ Q J C fun t h1 tk N m R O a3 k1=>?_
  have eu:t=u:=by
   have:f[i]?=some t:=by simpa using N
   rw[hu]at this;exact(Option.some.inj this).symm
  subst eu;have neT:s.heap.objs.size≠e:=yaQ (yao he);refine⟨_,rfl,wpAny_letOwnedTupleGo_enum m fun h2 U sb=>?_⟩;obtain⟨I2,fr⟩:=zks (h2:=h2) (y:=x) I hf rfl O k1 sb neT ru;refine⟨.ref s.heap.objs.size,_,I2,rfl,⟨_,x,rfl,fr,rfl,fun ys hy=>by rw[I.tuple_inj hy n];exact L⟩,⟨⟨t,by simpa using U⟩,R.1.at fun o q=>(sb.2 it (Ne.symm J)).trans q⟩,fun b g=>?_⟩;rw[zai]
  ·exact(hf b g).1
  ·rintro rfl;simp only[yan,yaM,ybY]at g
   rcases g with z|z
   ·exact neT z
   ·obtain⟨o,q,_⟩:=hi;exact absurd (yao q) (by rw[<-z];exact yaW _)
 done:=by
  intro X Z M hK Y i pins s σ H E I hf st S;subst Z M hK;obtain⟨xs,n,L⟩:=S;obtain⟨⟨old,he⟩,hi⟩:=st;obtain⟨f,B,p,hz⟩:=I.tuple n;have hl:=B.length;obtain⟨f0,f1,f2,f3,f4,f5⟩:=hf it (by simp);have ty:s.TypeIs (.ref e) "enumerate":=⟨_,he,rfl⟩;unfold pyNext;refine yaa (yc1 (yaX (name:=Str.ofString "__next__") ty F.slot_enumerate_next (ya0 F.slot_enumerate_next ty F.entry_enumerate_next ?_ (F.args_enumerate_next_1 _))));show wpAny _ _ (field (.ref e) 2 >>= _) _ _ _;refine yaa (ybB he rfl (x:=.ref it) rfl ?_);refine yaa (zlx (I.ok.hd Y) hi (show s.heap.IsTuple a f.toArray from p) (by simp;omega) fun h' x eb G=>?_);obtain⟨o,m,V⟩:=G;refine yaa (yco (T:="StopIteration") (b:=true) ⟨o,m,V⟩ isSubtype_stop ?_);exact yae ⟨rfl,I.turned (t':=s.toks) (fun b o g q=>eb b o g q) f0 f1 f3 f4 f5⟩
 self:=fun _ _ _ _ _ st h=>by
  obtain⟨⟨old,he⟩,_⟩:=st;exact ycP he h
theorem ziT:bootBuiltins "enumerate"=some (.type "enumerate"):=by decide +kernel
noncomputable def zyo(S:Hp->Addr->List V->Prop)(ta:TA):TI:=fun σ H R=>ta σ H fun vs H1=>∃a,vs=[.ref a]/\(∃xs,S H1 a xs)/\R (ItE S a) H1
theorem zok{K:PySem.W.Frag}{elts:List Expr}{x1:Nat}{tp:Pos}{a:Expr}{ta:TA}{p pos:Pos}(J:Gl X "enumerate")(hm:X.mg "enumerate"=none)(U:PA X [a] ta)(hK:autoParam (X.K=K) yAW)(hs:autoParam (starEach [a] X.env=[(false,eval a X.env)]) yAW):
  PI X (.Tuple elts x1 tp) (.Call (.Name "enumerate" p) [a] [] pos) (zyo (SqL K) ta):=by
 subst hK;intro pins s σ H R I h;refine Call_ (zfs I J hm ziT (ya8 (thn (U pos pins s σ H _ I h) fun us s1 ⟨vs,H1,d,r1,j⟩=>?_) hs rfl));obtain⟨b,e,⟨xs,n⟩,q⟩:=j;subst e
 cases r1 with
 |cons r i=>
  cases i;cases r;obtain⟨l,o,pl,t⟩:=d.list n;refine call_enumerate_list pl.isList fun h' he hi m k=>ycP he ?_
  refine⟨s1.heap.objs.size+1,[s1.heap.objs.size+1,s1.heap.objs.size],_,_,H1,rfl,d.kept (t':=s1.toks) k,zkH b _ _ (Nat.succ_ne_self _),⟨⟨_,he⟩,hi⟩,fun c g=>?_,q⟩;simp only[yan,yaM,ybY]at g
  have f:s1.heap.objs.size<=c:=by rcases g with rfl|rfl<;>omega
  exact d.fpOk f (d.hok.fresh f)
theorem zoj{K:PySem.W.Frag}{elts:List Expr}{x1:Nat}{tp:Pos}{a:Expr}{ta:TA}{p pos:Pos}(J:Gl X "enumerate")(hm:X.mg "enumerate"=none)(U:PA X [a] ta)(hK:autoParam (X.K=K) yAW)(hs:autoParam (starEach [a] X.env=[(false,eval a X.env)]) yAW):
  PI X (.Tuple elts x1 tp) (.Call (.Name "enumerate" p) [a] [] pos) (zyo (SqT K) ta):=by
 subst hK;intro pins s σ H R I h;refine Call_ (zfs I J hm ziT (ya8 (thn (U pos pins s σ H _ I h) fun us s1 ⟨vs,H1,d,r1,l⟩=>?_) hs rfl));obtain⟨b,e,⟨xs,n⟩,q⟩:=l;subst e
 cases r1 with
 |cons r j=>
  cases j;cases r;obtain⟨f,o,pl,t⟩:=d.tuple n;refine zhS (show s1.heap.IsTuple b f.toArray from pl) fun h' he hi m k=>ycP he ?_
  refine⟨s1.heap.objs.size+1,[s1.heap.objs.size+1,s1.heap.objs.size],_,_,H1,rfl,d.kept (t':=s1.toks) k,zkG b _ _ (Nat.succ_ne_self _),⟨⟨_,he⟩,hi⟩,fun c i=>?_,q⟩;simp only[yan,yaM,ybY]at i
  have g:s1.heap.objs.size<=c:=by rcases i with rfl|rfl<;>omega
  exact d.fpOk g (d.hok.fresh g)
end
end L2
namespace S2
open PySem PySem.Spec PyProof.Rows L2
structure ItOk(cl:Cf)(w:Wd)(J:It)(ds:List D):Prop where
 go:∀w',Fut w w'->∀i,i<ds.length->J.go i w'.H
 stop:∀w',Fut w w'->J.stop ds.length w'.H
 yld:∀w',Fut w w'->∀i d x H',ds[i]?=some d->J.yld i w'.H x H'->∃w'',w''.H=H'/\Grow w' w''/\Shd cl w'' x d
noncomputable abbrev Fi:=Env->Sto->Out (List D)
noncomputable def tI(cl:Cf)(E:St->XK)(f:Fi):TI:=fun σ H a=>∃B w ρ S,w.H=H/\Rel cl B σ w ρ S/\match f ρ S with
 |.ok ds S'=>∀J w',Rel cl B σ w' ρ S'->Fut w w'->ItOk cl w' J ds->a J w'.H|.exc c S'=>∀w',Rel cl B σ w' ρ S'->Fut w w'->E σ (.ref (cl c)) none w'.H|.bad=>False
def PI.imp(h:PI X tg it t)(i:∀σ H Q,t' σ H Q->t σ H Q):PI X tg it t':=fun pins s σ H Q I q=>h pins s σ H Q I (i _ _ _ q)
set_option genInjectivity true in
inductive Tg where|one (i:Nat)|tup (is:List Nat)
noncomputable def zfr:List Nat->List D->Env->Option Env
 |[],[],ρ=>some ρ|i::is,d::ds,ρ=>zfr is ds (ρ.set i (~~~d))|_,_,_=>none
noncomputable def Tg.put:Tg->Env->D->Option Env
 |.one i,ρ,d=>some (ρ.set i (~~~d))|.tup is,ρ,.tup ds=>zfr is ds ρ|.tup _,_,_=>none
noncomputable def tG(cl:Cf)(n:Nat)(tg:Tg):TG:=fun v σ H Q=>∃B w ρ S d b,w.H=H/\Rel cl B σ w ρ S/\Shd cl w v d/\tg.put ρ d=some b/\∀a,a.length=σ.length->a.drop n=σ.drop n->Rel cl B a w b S->Q a w.H
def PG.imp(h:PG X tg t)(i:∀v σ H Q,t' v σ H Q->t v σ H Q):PG X tg t':=fun pins s σ H v u Q I r q=>h pins s σ H v u Q I r (i _ _ _ _ q)
def zeq(tg:Tg)(body:Fs):List D->Env->Sto->Fo
 |[],ρ,S=>.nx ρ S|d::ds,ρ,S=>match tg.put ρ d with
  |none=>.bad|some b=>match body b S with
   |.nx a S'=>zeq tg body ds a S'|.ct a S'=>zeq tg body ds a S'|.bk a S'=>.nx a S'|o=>o
noncomputable def zgS(tg:Tg)(it:Fi)(body:Fs):Fs:=fun ρ S=>match it ρ S with
 |.ok ds S'=>zeq tg body ds ρ S'|.exc c S'=>.ex c ρ S'|.bad=>.bad
def zdz(c:Fe)(body:Fs):Nat->Env->Sto->Fo
 |0,_,_=>.bad|n+1,ρ,S=>match c ρ S with
  |.ok d S'=>(match isB d with
   |some true=>(match body ρ S' with
    |.nx a S'=>zdz c body n a S'|.ct a S'=>zdz c body n a S'|.bk a S'=>.nx a S'|o=>o)
   |some false=>.nx ρ S'|none=>.bad)
  |.exc x S'=>.ex x ρ S'|.bad=>.bad
section
variable{X:Cx}{cl:Cf}{E:St->XK}{own:Bool}{e iter tg:Expr}{body:List Stmt}{fb:Fs}{fi:Fi}{fc:Fe}{t:Tg}{pos:Pos}
theorem zku{α:Type}{l:List α}{a:α}(h:i<n):(l.set i a).drop n=l.drop n:=by
 refine yby fun k=>?_
 rw[ybK,ybK,yax (by omega)]
def zsV(I:i<n)(U:X.N.Nodup)(hi:X.N[i]?=some x)(J:Loc X.env.scope x)(hf:X.fn x=true\/X.env.scope.names.lookup x=some .local):PG X (.Name x pos) (tG cl n (.one i)):=by
 refine PG.imp (zhw U hi J hf) ?_;rintro v σ H Q ⟨B,w,ρ,S,d,a,rfl,R,h,b,q⟩;cases b;exact q _ (yau ..) (zku I) (R.put h)
noncomputable def tGs(cl:Cf)(n:Nat)(is:List Nat):TGs:=fun vs σ H Q=>∃B w ρ S ds b,w.H=H/\Rel cl B σ w ρ S/\Shds cl w vs ds/\zfr is ds ρ=some b/\∀a,a.length=σ.length->a.drop n=σ.drop n->Rel cl B a w b S->Q a w.H
def zqw:PGs X [] (tGs cl n []):=by
 intro pins s σ H vs us Q I r h;obtain⟨B,w,ρ,S,ds,b,rfl,R,hs,a,q⟩:=h
 cases hs with
 |nil=>
  cases a;exact zqV pins s σ w.H [] us Q I r ⟨rfl,q σ rfl rfl R⟩
 |cons _ _=>cases a
def znV(J:i<n)(hN:X.N.Nodup)(hi:X.N[i]?=some x)(U:Loc X.env.scope x)(hf:X.fn x=true\/X.env.scope.names.lookup x=some .local)(h2:PGs X es (tGs cl n is)):PGs X (.Name x pos::es) (tGs cl n (i::is)):=by
 intro pins s σ H vs us Q I r h;obtain⟨B,w,ρ,S,ds,b,rfl,R,hs,c,q⟩:=h;refine zol (zhw hN hi U hf) h2 rfl pins s σ w.H vs us Q I r ?_
 cases hs with
 |nil=>cases c|cons h t=>
  rename_i v d vs ds;exact⟨v,vs,rfl,B,w,_,S,ds,b,rfl,R.put h,t,c,fun a f e=>q a (f.trans (yau ..)) (e.trans (zku J))⟩
def zsU(U:X.calm=true)(h:PGs X es (tGs cl n is))(J:(assignEach es X.env).length=is.length)(I:(assignEach es X.env).findIdx? (·.1)=none):PG X (.Tuple es k pos) (tG cl n (.tup is)):=by
 refine PG.imp (ztu U h J I) ?_;rintro v σ H Q ⟨B,w,ρ,S,d,b,rfl,R,h,c,q⟩
 cases h with
 |tup e k r=>
  have g:∀(is:List Nat) (ds:List D) (ρ b:Env),zfr is ds ρ=some b->ds.length=is.length:=by
   intro is
   induction is with
   |nil=>intro ds ρ b h;cases ds with
    |nil=>rfl|cons _ _=>cases h
   |cons i is f=>intro ds ρ b h;cases ds with
    |nil=>cases h|cons d ds=>rw[yar,yar,f ds _ _ h]
  rename_i a xs ds;refine⟨a,xs,rfl,SqT.of e,by rw[r.length];exact g is ds ρ b c,B,w,ρ,S,ds,b,rfl,R,r,c,q⟩
 |_=>cases c
theorem zsG(U:PassesOwn (model X.prog X.w) X.A X.env X.xe)(hc:X.calm=true)(hi:PI X tg iter (tI cl E fi))(hg:PG X tg (tG cl n t))(I:PSs X body (tS cl E own fb))(hs:∀x,foldedSetIterable iter X.env x=pure x):PS X (.For tg iter body [] pos) (tS cl E own (zgS t fi fb)):=by
 refine PS.imp (zpt U hc hi hg I hs) ?_;rintro De σ H ⟨B,w,ρ,S,rfl,R,q⟩;refine⟨B,w,ρ,S,rfl,R,?_⟩;unfold zgS at q
 cases hf:fi ρ S with
 |bad=>rwa[hf]at q|exc c S1=>rw[hf]at q;exact fun w' L M=>q σ w' L M|ok ds S1=>
  rw[hf]at q;intro J v K F0 C;dsimp only at q;refine⟨fun i m h H'=>m=ds.length-i/\i<=ds.length/\∃b a S2,b.H=H'/\Fut v b/\Rel cl B h b a S2/\zhb cl E own B b De (zeq t fb (ds.drop i) a S2),⟨ds.length,by simp,yaF _,v,ρ,S1,rfl,Fut.refl _,K,by rw[List.drop_zero];exact zhb.up F0 q⟩,?_⟩;rintro i m u H1 ⟨rfl,hi,b,a,S2,rfl,F1,F,k⟩
  by_cases f:i<ds.length
  ·obtain⟨d,hd⟩:∃d,ds[i]?=some d:=⟨ds[i],yad f⟩
   have z:ds.drop i=d::ds.drop (i+1):=by
    rw[ycl f];rw[yad f]at hd;cases hd;rfl
   rw[z]at k;unfold zeq at k
   cases hp1:t.put a d with
   |none=>rw[hp1]at k;exact k.elim|some o=>
    rw[hp1]at k;dsimp only at k;refine .inr ⟨C.go b F1 i f,fun h H'=>i+1<=ds.length/\∃b a S2,b.H=H'/\Fut v b/\Rel cl B h b a S2/\zhb cl E own B b De (zeq t fb (ds.drop (i+1)) a S2),fun h H' h'=>⟨ds.length-(i+1),by omega,rfl,h'.1,h'.2⟩,fun x H' y=>?_⟩;obtain⟨D,rfl,g2,s2⟩:=C.yld b F1 i d x H' hd y;refine⟨B,D,a,S2,d,o,rfl,F.grow g2,s2,hp1,fun G _ _ R2=>⟨B,D,o,S2,rfl,R2,?_⟩⟩;have j:=zhb.up g2.fut k
    cases I:fb o S2 with
    |bad=>rwa[I]at j|rt d p=>rwa[I]at j|ex c g p=>rwa[I]at j|bk g p=>rw[I]at j;exact fun l r s F3=>j l r s F3|nx g p=>rw[I]at j;exact fun l r s F3=>⟨f,r,g,p,rfl,F1.trans (g2.fut.trans F3),s,zhb.up F3 j⟩|ct g p=>rw[I]at j;exact fun l r s F3=>⟨f,r,g,p,rfl,F1.trans (g2.fut.trans F3),s,zhb.up F3 j⟩
  ·have e:i=ds.length:=by omega
   subst e;rw[List.drop_length]at k;exact .inl ⟨C.stop b F1,k u b F (Fut.refl _)⟩
def zjR(n:Nat)(c:Fe)(body:Fs):Fs:=zdz c body n
def znO(n:Nat)(J:PassesOwn (model X.prog X.w) X.A X.env X.xe)(U:PT X c (tTr cl E fc))(I:PSs X body (tS cl E own fb)):PS X (.While c body [] pos) (tS cl E own (zjR n fc fb)):=by
 refine PS.imp (zod J U I) ?_;rintro De σ H ⟨B,w,ρ,S,rfl,R,q⟩;refine⟨fun m i H'=>∃g a S2,g.H=H'/\Fut w g/\Rel cl B i g a S2/\zhb cl E own B g De (zdz fc fb m a S2),⟨n,w,ρ,S,rfl,Fut.refl _,R,q⟩,?_⟩;rintro m o H1 ⟨g,a,S1,rfl,F1,u,e⟩
 cases m with
 |zero=>exact e.elim|succ m=>
  unfold zdz at e;refine⟨B,g,a,S1,rfl,u,?_⟩
  cases s:fc a S1 with
  |bad=>rwa[s]at e|exc c S2=>rw[s]at e;exact fun w' v x=>e o w' v x|ok d S2=>
   rw[s]at e;dsimp only at e ⊢
   cases I:isB d with
   |none=>rw[I]at e;exact e.elim|some b=>
    rw[I]at e;intro t R2 F2
    cases b with
    |false=>exact zhE (e o t R2 F2)|true=>
     refine zkh ⟨fun i H'=>∃g a S2,g.H=H'/\Fut w g/\Rel cl B i g a S2/\zhb cl E own B g De (zdz fc fb m a S2),fun i H' h'=>⟨m,yb2 _,h'⟩,B,t,a,S2,rfl,R2,?_⟩;have h:=zhb.up F2 e;dsimp only at h
     cases k:fb a S2 with
     |bad=>rwa[k]at h|rt d l=>rwa[k]at h|ex c f l=>rwa[k]at h|bk f l=>rw[k]at h;exact fun j p r F3=>h j p r F3|nx f l=>rw[k]at h;exact fun j p r F3=>⟨p,f,l,rfl,F1.trans (F2.trans F3),r,zhb.up F3 h⟩|ct f l=>rw[k]at h;exact fun j p r F3=>⟨p,f,l,rfl,F1.trans (F2.trans F3),r,zhb.up F3 h⟩
def zkt(f:Fe):Fi:=fun ρ S=>(f ρ S).bind fun d S1=>match d with|.lst l=>.ok l S1|_=>.bad
def zjt(f:Fe):Fi:=fun ρ S=>(f ρ S).bind fun d S1=>match d with|.tup l=>.ok l S1|_=>.bad
theorem zlP(he:PE X e (tE cl E fc)):PI X tg e (tI cl E (zkt fc)):=by
 refine PI.imp (zhv he) ?_;rintro σ H Q ⟨B,w,ρ,S,rfl,R,q⟩;refine⟨B,w,ρ,S,rfl,R,?_⟩;unfold zkt at q
 cases hf:fc ρ S with
 |bad=>rwa[hf]at q|exc c S1=>rwa[hf]at q|ok d S1=>
  rw[hf]at q;intro v w' l m h';dsimp only[Out.bind]at q
  cases h' with
  |lst e k r=>
   rename_i a xs ds;refine⟨a,rfl,⟨xs,SqL.of e⟩,q _ w' l m ?_⟩;have n:=r.length;refine⟨fun b F1 i hi=>⟨xs,xs[i]'(by omega),SqL.of (F1.keep _ _ e k).1,yad (by omega)⟩,fun b F1=>⟨xs,SqL.of (F1.keep _ _ e k).1,by omega⟩,fun b F1 i d x H1 hd y=>?_⟩;obtain⟨rfl,g⟩:=y;have h:=g xs (SqL.of (F1.keep _ _ e k).1);obtain⟨d',f,j⟩:=r.get h;rw[hd]at f;cases f;exact⟨b,rfl,Grow.refl _,j.up F1⟩
  |_=>exact q.elim
def zsQ(he:PE X e (tE cl E fc)):PI X tg e (tI cl E (zjt fc)):=by
 refine PI.imp (zmo he) ?_;rintro σ H Q ⟨B,w,ρ,S,rfl,R,q⟩;refine⟨B,w,ρ,S,rfl,R,?_⟩;unfold zjt at q
 cases hf:fc ρ S with
 |bad=>rwa[hf]at q|exc c S1=>rwa[hf]at q|ok d S1=>
  rw[hf]at q;intro v w' l m h';dsimp only[Out.bind]at q
  cases h' with
  |tup e k r=>
   rename_i a xs ds;refine⟨a,rfl,⟨xs,SqT.of e⟩,q _ w' l m ?_⟩;have n:=r.length;refine⟨fun b F1 i hi=>⟨xs,xs[i]'(by omega),SqT.of (F1.keep _ _ e k).1,yad (by omega)⟩,fun b F1=>⟨xs,SqT.of (F1.keep _ _ e k).1,by omega⟩,fun b F1 i d x H1 hd y=>?_⟩;obtain⟨rfl,g⟩:=y;have h:=g xs (SqT.of (F1.keep _ _ e k).1);obtain⟨d',f,j⟩:=r.get h;rw[hd]at f;cases f;exact⟨b,rfl,Grow.refl _,j.up F1⟩
  |_=>exact q.elim
noncomputable def zaw(lo hi:Int):List D:=(List.range (hi-lo).toNat).map fun(i:Nat)=>.int (lo+i)
def zdt(f:Fe):Fi:=fun ρ S=>(zap [f] ρ S).bind fun ds S1=>match ds with|[.int j]=>if -1000000<=j/\j<=1000000 then .ok (zaw 0 j) S1 else .bad|_=>.bad
def zuo{w:Wd}{lo hi:Int}{n:Nat}(I:n=(hi-lo).toNat):ItOk cl w (Itr lo n) (zaw lo hi):=by
 subst I
 have c:(zaw lo hi).length=(hi-lo).toNat:=by unfold zaw;rw[yaf,ybo]
 refine⟨fun a F1 i h=>by rw[c]at h;exact h,fun a F1=>by rw[c];exact yag _,fun a F1 i d x H1 hd y=>?_⟩;obtain⟨rfl,rfl⟩:=y;unfold zaw at hd;rw[yaw]at hd
 cases b:(List.range (hi-lo).toNat)[i]? with
 |none=>rw[b]at hd;cases hd|some j=>
  rw[b]at hd;have:=(yal.mp b).2;rw[List.getElem_range]at this;subst this;cases hd;exact⟨a,rfl,Grow.refl _,.int _⟩
theorem zqt(I:Gl X "range")(hm:X.mg "range"=none)(J:PA X [e] (tAs cl E [fc]))(hs:starEach [e] X.env=[(false,eval e X.env)]):PI X tg (.Call (.Name "range" p) [e] [] pos) (tI cl E (zdt fc)):=by
 refine PI.imp (zmp I hm J hs) ?_;rintro σ H Q ⟨B,w,ρ,S,rfl,R,q⟩;refine⟨B,w,ρ,S,rfl,R,?_⟩;unfold zdt at q
 cases hf:zap [fc] ρ S with
 |bad=>rwa[hf]at q|exc c S1=>rwa[hf]at q|ok ds S1=>
  rw[hf]at q;intro vs w' d f h';dsimp only[Out.bind]at q;split at q
  ·rename_i b S' a;split at a
   ·rename_i j;split at a
    ·rename_i g;cases a
     cases h' with
     |cons h1 h2=>
      cases h1;cases h2;exact⟨j,rfl,by omega,by omega,q _ w' d f (zuo (by omega))⟩
    ·cases a
   ·cases a
  ·rename_i a;split at a<;>first|(split at a<;>cases a)|cases a
  ·exact q.elim
end
noncomputable def zuI(ρ:Env)(i:Nat):Option (Bool×D):=match ρ[i]? with|some (~~~d)=>(~~~d)|_=>none
def zch(n:Nat)(caps:List Nat)(ρ:Env):Env:=List.replicate n none++caps.map (zuI ρ)
def zeY:Fe:=zad (.bl true)
def zbE(tg:Tg)(c elt:Fe)(ag:Env):List D->Sto->Out (List D)
 |[],S=>.ok [] S|d::ds,S=>match tg.put ag d with
  |none=>.bad|some a=>(c a S).bind fun b S1=>match isB b with
   |some true=>(elt a S1).bind fun y S2=>(zbE tg c elt ag ds S2).bind fun ys e=>.ok (y::ys) e|some false=>zbE tg c elt ag ds S1|none=>.bad
def zb2(n:Nat)(tg:Tg)(it:Fi)(c elt:Fe)(caps:List Nat):Fe:=fun ρ S=>(it ρ S).bind fun ds S1=>match zbE tg c elt (zch n caps ρ) ds S1 with
 |.ok ys S2=>if zbh ys.length then .ok (.lst ys) S2 else .bad
 |_=>.bad
noncomputable abbrev noE:St->XK:=fun _ _ _ _=>False
section
variable{cl:Cf}
theorem zm1{caps:List (Str×Nat)}(R:Rel cl B σ w ρ S)(W1:World' cl B1 U S1)(F1:Fut w U){I:St}(J:I.length=n+caps.length)(hc:I.drop n=caps.map fun p=>(σ[p.2]?).join):
  Rel cl B1 I U (zch n (caps.map (·.2)) ρ) S1 where
 wd:=W1
 len:=by unfold zch;rw[J,yap,yaL,yaf,yaf]
 slots:=fun i o d h=>by
  unfold zch at h
  by_cases hi:i<n
  ·rw[yaZ (by rw[yaL];exact hi),ybX]at h
   split at h<;>cases h
  ·rw[yaG (by rw[yaL];omega),yaL,ybh,yaw]at h
   cases a:caps[i-n]? with
   |none=>rw[a]at h;cases h|some p=>
    rw[a]at h;have h':zuI ρ p.2=some (o,d):=Option.some.inj h;unfold zuI at h';split at h'
    ·rename_i d' hd;cases h';obtain⟨v,e,x⟩:=R.slots p.2 false d hd;refine⟨v,?_,Shd.up F1 x⟩;have:=congrArg (fun l=>l[i-n]?) hc;rw[ybK,yaw,a]at this;rw[show n+(i-n)=i by omega]at this;rw[this];show some ((σ[p.2]?).join)=_;rw[e];rfl
    ·cases h'
end
section
variable{X:Cx}{cl:Cf}{E:St->XK}
theorem zpX(q:tN cl E (zb2 n t fi fc fe (caps.map (·.2))) σ H Q):
  zh8 (tI cl E fi) (tG cl n t) (tTr cl noE fc) (tE cl noE fe) n caps σ H Q:=by
 obtain⟨B,w,ρ,S,rfl,R,q⟩:=q;refine⟨B,w,ρ,S,rfl,R,?_⟩;unfold zb2 at q
 cases hf:fi ρ S with
 |bad=>rwa[hf]at q|exc c S1=>rwa[hf]at q|ok ds S1=>
  rw[hf]at q;dsimp only[Out.bind]at q;intro J k T F0 N
  cases l:zbE t fc fe (zch n (caps.map (·.2)) ρ) ds S1 with
  |bad=>rw[l]at q;exact q.elim|exc _ _=>rw[l]at q;exact q.elim|ok all Sf=>
   rw[l]at q;dsimp only at q
   cases K:zbh all.length with
   |false=>rw[K,if_neg (by decide)]at q;exact q.elim
   |true=>
    rw[K,if_pos rfl]at q;dsimp only at q;refine⟨fun i m ys z H'=>m=ds.length-i/\i<=ds.length/\z.length=n+caps.length/\z.drop n=(caps.map fun p=>(σ[p.2]?).join)/\∃j S2 es zcd,j.H=H'/\Fut k.inn j/\World' cl k.base j S2/\Shds cl j ys es/\zbE t fc fe (zch n (caps.map (·.2)) ρ) (ds.drop i) S2=.ok zcd Sf/\es++zcd=all,⟨ds.length,by simp,yaF _,by simp[capσ],by simp[capσ],k.inn,S1,[],all,rfl,Fut.refl _,T.wd.enter,.nil,by rw[List.drop_zero];exact l,rfl⟩,?_⟩;rintro i m ys G H1 ⟨rfl,hi,r,u,j,S2,es,zcd,rfl,F1,O,sh,a,f⟩;refine⟨?_,?_⟩
    ·rw[sh.length];refine yak ?_ (zbm K);rw[<-f,yap];omega
    have o:Fut k j:=(zcW k).trans F1
    by_cases g:i<ds.length
    ·obtain⟨d,s⟩:∃d,ds[i]?=some d:=⟨ds[i],yad g⟩
     have L:ds.drop i=d::ds.drop (i+1):=by
      rw[ycl g];rw[yad g]at s;cases s;rfl
     rw[L]at a;unfold zbE at a;refine .inr ⟨N.go j o i g,fun x H' y=>?_⟩;obtain⟨I,rfl,g2,s2⟩:=N.yld j o i d x H' s y;have R1:Rel cl k.base G I (zch n (caps.map (·.2)) ρ) S2:=zm1 T (O.grow g2) (o.trans g2.fut) r u
     cases A:t.put (zch n (caps.map (·.2)) ρ) d with
     |none=>rw[A]at a;cases a|some h=>
      rw[A]at a;dsimp only at a;refine⟨k.base,I,_,S2,d,h,rfl,R1,s2,A,fun Z D C R2=>⟨k.base,I,h,S2,rfl,R2,?_⟩⟩
      cases M:fc h S2 with
      |bad=>rw[M]at a;cases a|exc _ _=>rw[M]at a;cases a|ok b P=>
       rw[M]at a;dsimp only[Out.bind]at a ⊢
       cases V:isB b with
       |none=>rw[V]at a;cases a|some bb=>
        rw[V]at a;intro U Y F3
        cases bb with
        |false=>exact zhE ⟨ds.length-(i+1),by omega,rfl,g,D.trans r,C.trans u,U,P,es,zcd,rfl,F1.trans (g2.fut.trans F3),Y.wd,sh.up (g2.fut.trans F3),a,f⟩
        |true=>
         refine zkh ⟨k.base,U,h,P,rfl,Y,?_⟩;dsimp only at a
         cases he:fe h P with
         |bad=>rw[he]at a;cases a|exc _ _=>rw[he]at a;cases a|ok yv X=>
          rw[he]at a;dsimp only at a
          cases F:zbE t fc fe (zch n (caps.map (·.2)) ρ) (ds.drop (i+1)) X with
          |bad=>rw[F]at a;cases a|exc _ _=>rw[F]at a;cases a|ok zs S5=>
           rw[F]at a;cases a;intro v w4 R4 F4 h4;have W:=g2.fut.trans (F3.trans F4);exact⟨ds.length-(i+1),by omega,rfl,g,D.trans r,C.trans u,w4,X,es++[yv],zs,rfl,F1.trans W,R4.wd,(sh.up W).append (.cons h4 .nil),F,by rw[<-f,ycf];rfl⟩
    ·have e:i=ds.length:=by omega
     subst e;rw[List.drop_length]at a;cases a;rw[ya3]at f;subst f;refine .inl ⟨N.stop j o,fun p A=>?_⟩;obtain⟨Rb,Fb⟩:=T.leave O F1;exact q p (.lst ys) (k.back j) Rb (F0.trans Fb) A (.lst (sh.up (zea O)))
end
end S2
namespace L2
open PySem PySem.Spec PyProof.Rows
def CXE(P:Program)(w:World):CXT:=fun outer H s E e s'=>∃(a:Addr) (cls a0:Value) (H':Hp) (B:Heap),e=.ref a/\Heap.FlyingW B outer a cls a0 s'.heap ∧
 (∀b o,s'.heap.get? b=some o->H' b≠none->B.get? b=some o)/\(∀b o,s.heap.get? b=some o->H b=none->b ∉ frs outer->B.get? b=some o) ∧
 (∀b o,s.heap.get? b=some o->b ∉ frs outer->∃o',B.get? b=some o') ∧
 s'.os=s.os/\AllBare s'.gens/\Un (frs outer) [] H H' s.heap s'.heap/\HOk P w H' s'.heap/\E cls none H'
def zbJ.has(x:zbJ P w H h a o):∃ob,h.get? a=some ob:=by
 cases o with
 |lst xs=>obtain⟨_,_,_,_,e⟩:=x;exact⟨_,e⟩|tup xs=>obtain⟨_,_,_,ob,e,_⟩:=x;exact⟨_,e⟩|dK b=>obtain⟨_,_,_,_,o,_,_,e,_⟩:=x;exact⟨_,e⟩|dT b=>obtain⟨_,_,_,_,o,_,_,e,_⟩:=x;exact⟨_,e⟩|set S n=>obtain⟨o,_,_,_,e,_⟩:=x;exact⟨_,e⟩|ins C dx fs=>obtain⟨_,_,_,e,_⟩:=x;exact⟨_,e⟩|own y=>exact x|xd fs=>obtain⟨_,⟨_,_,_,e,_⟩,_⟩:=x;exact⟨_,e⟩|rng lo hi=>obtain⟨_,_,_,e⟩:=x;exact⟨_,e⟩|frz ob u=>obtain⟨e,_⟩:=x;exact⟨_,e⟩|tbl ps=>exact⟨_,(show h.get? a=some _ from x)⟩|met f y=>exact⟨_,(show h.get? a=some _ from x)⟩|ext c=>obtain⟨_,e,_⟩:=x;exact e
def HOk.same(x:HOk P w H h)(k:∀b u,h.get? b=some u->H b≠none->h'.get? b=some u):HOk P w H h':=fun a o e=>
 (x a o e).stay (fun b u c q=>k b u q (c.elim (fun z=>by rw[z,e];exact yaE _) (fun z=>by rw[z];exact yaE _))) (fun _ q=>q) fun _ _ q=>q
section
variable{X:Cx}{pins:Z3}{σ:St}{H:Hp}{s:Shared}{M:Model}
def zoX(l:List Env):∀env∈l,∀b,env.frame=some b->b∈frs l:=fun env he b a=>ycy.mpr ⟨env,he,a⟩
def zk1(I:Inv X pins σ H s)(hx:X.ex=[])(hs:X.stack=X.env::X.outer)(hf:X.env.frame=some X.env.locals)(mk:Heap.MadeExcOf s.heap h' e cls vs)(q:E cls none H):
  wpAny M X.A (leaving X.env (.ref e)) (fun _ U=>CXE X.prog X.w X.outer X.H₀ X.s₀ E (.ref e) U) Er {s with heap:=h'}:=by
 have m:X.A.frames=some (X.env::X.outer):=by rw[<-hs];exact I.ok.frames
 have l:s.heap.FunFrames X.base (X.env::X.outer):=by rw[<-hs];exact I.stack
 refine wpAny_leaves_madeW (base:=PySem.W.hideAll s.heap (frs (X.env::X.outer))) m hf (fun b o z=>PySem.W.of_hideAll _ z) (PySem.W.funFrames_hide l (zoX _)) mk fun h2 t i tup _ up=>?_
 have c:∀b o,s.heap.get? b=some o->b ∉ frs (X.env::X.outer)->(PySem.W.hideAll s.heap (frs (X.env::X.outer))).get? b=some o:=fun b o z n=>PySem.W.hideAll_get _ z n
 have sub:∀b,b∈frs (X.env::X.outer)->b=X.env.locals\/b∈X.fs:=fun b a=>by
  rw[<-hs]at a;exact yan.mp (I.stkSub b a)
 have h:∀b,b∈frs (X.env::X.outer)->H b=none:=fun b a=>by rw[<-hs]at a;exact I.stkFree b a
 have old:∀b o,X.s₀.heap.get? b=some o->b ∉ frs X.outer->b ∉ frs (X.env::X.outer):=fun b o z n a=>by
  rcases sub b a with r|r
  ·exact absurd (yaj (yao z) I.ok.above) (by rw[r];exact yaW _)
  ·exact n r
 have nx:∀b:Addr,b ∉ X.ex:=fun b z=>by rw[hx]at z;cases z
 have trk:∀b o,s.heap.get? b=some o->H b≠none->h2.get? b=some o:=fun b o z n=>i.1 b o (c b o z fun a=>n (h b a))
 have g:HOk X.prog X.w H h2:=I.hok.same trk
 have f:∀b o,s.heap.get? b=some o->b∈frs X.stack->∃p,h2.get? b=some {o with slots:=p}:=fun b o z a=>by
  obtain⟨_,o',d,hd⟩:=I.stack.mem a;rw[z]at d;cases d;exact up b o (mk.keeps b o z) hd
 have j:Un (frs X.stack) [] H H s.heap h2:=⟨fun b o z n a _=>i.1 b o (c b o z (by rw[<-hs];exact a)),fun b o z n a _=>f b o z a,fun b o z n _=>n,
  fun b o z _=>by
   by_cases a:b∈frs X.stack
   ·obtain⟨p,r⟩:=f b o z a;exact⟨_,r⟩
   ·exact⟨o,i.1 b o (c b o z (by rw[<-hs];exact a))⟩,
  fun _ _ z=>z,fun _ _ _ z=>z,fun _ ps z=>⟨#[],by rw[z,Array.append_empty]⟩⟩
 have J:=I.call (g':=s.gens) (t':=s.toks) (d':=s.drawn) (ch:=[]) j g I.bare (fun b z=>absurd z (by simp));refine⟨e,cls,.ref t,H,_,rfl,i,fun b o z n=>?_,fun b o z n a=>?_,fun b o z a=>?_,J.os,J.bare,?_,J.hok,q⟩
 ·cases k:H b with
  |none=>exact absurd k n|some u=>
   obtain⟨o',d⟩:=(I.hok b u k).has;have:=trk b o' d n;rw[show h2.get? b=some o from z]at this;cases this;exact c b o d fun a=>n (h b a)
 ·exact c b o (I.base.keep b o z n a (nx b)) (old b o z a)
 ·obtain⟨o',d⟩:=I.base.there b o z (nx b);exact⟨o',c b o' d (old b o z a)⟩
 ·have:=J.base;rwa[hx]at this
def zoI(I:Inv X pins σ H s)(hx:X.ex=[])(hs:X.stack=X.env::X.outer)(hf:X.env.frame=some X.env.locals)(q:CXE X.prog X.w X.stack H s E e s'):
  wpAny M X.A (leaving X.env e) (fun _ U=>CXE X.prog X.w X.outer X.H₀ X.s₀ E e U) Er s':=by
 have m:X.A.frames=some (X.env::X.outer):=by rw[<-hs];exact I.ok.frames
 obtain⟨a,cls,a0,H',B,rfl,x,c1,v,t,os,bare,un,hok,q⟩:=q
 have p:Heap.FlyingW B (X.env::X.outer) a cls a0 s'.heap:=by rw[<-hs];exact x
 refine wpAny_leaves_onW m hf p fun h2 d up=>?_
 have sub:∀b,b∈frs X.stack->b=X.env.locals\/b∈X.fs:=fun b c=>yan.mp (I.stkSub b c)
 have old:∀b o,X.s₀.heap.get? b=some o->b ∉ frs X.outer->b ∉ frs X.stack:=fun b o z n c=>by
  rcases sub b c with r|r
  ·exact absurd (yaj (yao z) I.ok.above) (by rw[r];exact yaW _)
  ·exact n r
 have nx:∀b:Addr,b ∉ X.ex:=fun b z=>by rw[hx]at z;cases z
 have trk:∀b o,s'.heap.get? b=some o->H' b≠none->h2.get? b=some o:=fun b o z n=>d.1 b o (c1 b o z n)
 have h:HOk X.prog X.w H' h2:=hok.same trk
 have g:∀b o,s.heap.get? b=some o->H b=none->b∈frs X.stack->∃i,h2.get? b=some {o with slots:=i}:=fun b o z n c=>by
  obtain⟨_,o',f,hd⟩:=I.stack.mem c;rw[z]at f;cases f;obtain⟨i,r⟩:=un.slot b o z n c (by simp);obtain⟨l,r'⟩:=up b ({o with slots:=i}:Obj) r hd;exact⟨l,r'⟩
 have j:Un (frs X.stack) [] H H' s.heap h2:=⟨fun b o z n c _=>d.1 b o (v b o z n c),fun b o z n c _=>g b o z n c,un.free,
  fun b o z _=>by
   by_cases c:b∈frs X.stack
   ·obtain⟨i,r⟩:=g b o z (I.stkFree b c) c;exact⟨_,r⟩
   ·obtain⟨o',r⟩:=t b o z c
    exact⟨o',d.1 b o' r⟩,
  un.tups,un.frzs,un.tbls⟩
 have J:=I.call (g':=s'.gens) (t':=s'.toks) (d':=s'.drawn) (ch:=[]) j h bare (fun b z=>absurd z (by simp));refine⟨a,cls,a0,H',B,rfl,d,fun b o z n=>?_,fun b o z n c=>?_,fun b o z c=>?_,os.trans I.os,bare,?_,J.hok,q⟩
 ·cases k:H' b with
  |none=>exact absurd k n|some u=>
   obtain⟨o',f⟩:=(hok b u k).has;have:=trk b o' f n;rw[show h2.get? b=some o from z]at this;cases this;exact c1 b o f n
 ·exact v b o (I.base.keep b o z n c (nx b)) (I.base.free b o z n (nx b)) (old b o z c)
 ·obtain⟨o',f⟩:=I.base.there b o z (nx b);exact t b o' f (old b o z c)
 ·have:=J.base;rwa[hx]at this
end
def zot{P:Program}{K:PySem.W.Frag}:
  zi1 (CXE P w) (zjv (CXE P w) P w K mg base N qual scope f cd A outer s H E) E:=fun pins σ H1 s1 e s' I q=>
 zoI (X:=zjv (CXE P w) P w K mg base N qual scope f cd A outer s H E) I rfl rfl rfl q
def zjr{K:PySem.W.Frag}{h:Heap}(k:K.In h)(z:PySem.W.excIn K C J I=true):
  ∃bm N nm U bs hd sn sub ab col dd c0 c1 c2 c3 c5 mN,h.get? C=some (excClassObj nm U C N bs bm hd sn sub ab col dd c0 c1 c2 c3 c5 I)/\h.Ns N mN/\mN "__init__"=none/\OwnTail h J bm:=by
 unfold PySem.W.excIn at z;split at z
 case h_2=>cases z
 case h_1 dd cd sl ho=>
  split at z
  case h_2=>cases z
  case h_1 D bm c0 c1 c2 c3 n c5 e1 e2=>
   simp only[yab,yce,yaV]at z;obtain⟨⟨⟨⟨⟨i,g⟩,d⟩,f⟩,c⟩,e⟩:=z;subst i g
   have a:sl=#[c0,c1,c2,c3,some (.builtin n),c5]:=by
    cases sl with
    |mk l=>exact congrArg Array.mk e2
   have b:cd={cd with mro:=.ref D::bm,hasDel:=false}:=by
    cases cd;simp only at e1 d;simp only[e1,d]
   rw[a,b]at ho;exact⟨bm,cd.ns,cd.name,_,cd.bases,_,_,_,_,_,dd,c0,c1,c2,c3,c5,_,k _ _ ho,.of_isNs (PySem.W.isNs_of_in k c),PySem.W.nsMap_none_of_in k c e,PySem.W.tail_of_in k f⟩
noncomputable def zuT(X:Cx)(E:XK):Prop:=∀(C:Addr) (pins:Z3) (σ:St) (H:Hp) (s:Shared) (e:Addr) (h':Heap) (vs:List Value),Inv X pins σ H s->Heap.MadeExcOf s.heap h' e (.ref C) vs->E (.ref C) none H->X.xe (.ref e) {s with heap:=h'}
def zjc{P:Program}{K:PySem.W.Frag}:
  zuT (zjv (CXE P w) P w K mg base N qual scope f cd A outer s H E) E:=fun C pins σ H1 s1 e h' vs I mk q=>
 zk1 (X:=zjv (CXE P w) P w K mg base N qual scope f cd A outer s H E) I rfl rfl rfl mk q
noncomputable def XP(X:Cx)(pins:Z3)(σ:St)(E:XK)(e:Value)(s':Shared):Prop:=∃H1 s1,Inv X pins σ H1 s1/\CXE X.prog X.w X.stack H1 s1 E e s'
def zhC{M:Model}{A:Around}{E:Z5}{K:PySem.W.Frag}{s:Shared}{C D e:Addr}{I:Obj}{bC J:List Value}{iC iD:String}{Q:Bool->Shared->Prop}(k:K.In s.heap)(zC:PySem.W.excIn K C bC iC=true)(U:PySem.W.excIn K D J iD=true)
  (he:s.heap.get? e=some I) (hc:I.cls=.ref C) (hb:J.contains (.type "BaseException")=true) (up:∃cd d cl sl,K.lookup C=some ⟨cl,d,.cls cd,sl⟩/\cd.mro.contains (.ref D)=true) (q:Q true s):wpAny M A (excMatches (.ref e) (.ref D)) Q E s:=by
 obtain⟨bm,N,nm,B,bs,hd,sn,sub,ab,col,dd,S,c1,R,P,O,mN,m,H,G,F⟩:=zjr k zC;obtain⟨j,T,r,p,y,w,o,l,z,n,x,d0,d1,d2,d3,d5,u,p1,p2,p3,p4⟩:=zjr k U;obtain⟨cd,d,cl,sl,v,ct⟩:=up;have a:=k _ _ v;rw[m]at a;have b:=congrArg Obj.data (Option.some.inj a)
 have c:(Value.ref C::bm).contains (.ref D)=true:=by
  injection b with h
  rwa[<-h]at ct
 have i:(Value.ref D::j).contains (.type "BaseException")=true:=by rw[ycE,p4.hasType hb,Bool.or_true]
 have f:=tc_notTuple;obtain⟨h,g,L,t,os⟩:=s;unfold excMatches
 repeat (first|(with_reducible refine ybz he ?_;rw[hc])|with_reducible refine ybz p1 ?_|(with_reducible refine wpAny_isSubtype_exc p1 ?_;rw[i])|(with_reducible refine wpAny_isSubtype_exc m ?_;rw[c])|wp_step)
 exact q
section
variable{X:Cx}{pins:Z3}{σ:St}{H:Hp}{s:Shared}
def zrz(I:Inv X pins σ H s)(hN:X.N.Nodup)(hi:X.N[i]?=some x)(U:X.env.scope.names.lookup x=some .local)(J:∃v,σ[i]?=some (some v))
  (h:∀s',Inv X pins (σ.set i none) H s'->Q () s'):wpAny M A (unbindName X.env x) Q E s:=by
 obtain⟨m,S,B⟩:=id I.loc
 have g:(X.env.scope.kind==.class||(X.env.scope.kind==.module&&X.env.locals != X.env.globals))=false:=by rw[I.ok.kind];rfl
 obtain⟨v,J⟩:=J;obtain⟨u,r,O⟩:=B i x v hi J (.inl U)
 have hm:m x=some u:=by
  rcases O with⟨_,z⟩|⟨z,_⟩
  ·exact z
  ·have z:X.env.scope.names.lookup x=some .cell\/X.env.scope.names.lookup x=some .free:=z;rw[U]at z
   rcases z with z|z<;>cases z
 refine wpAny_unbindName_local U S hm g fun h' V l hs=>h _ ?_
 have far:∀b o,X.s₀.heap.get? b=some o->b≠X.env.locals:=fun b o z=>yaz (yaj (yao z) I.ok.above)
 refine⟨I.ok,I.os,I.bare,⟨?_,?_,I.base.free,?_,I.base.tups,I.base.frzs,I.base.tbls⟩,⟨_,l,?_⟩,?_,I.free,I.freeC,?_,?_,by simpa using I.len⟩
 ·exact fun b o z n t f=>(hs.2 b (far b o z)).trans (I.base.keep b o z n t f)
 ·exact fun b o z n t f=>let ⟨G,a⟩:=I.base.slot b o z n t f;⟨G,(hs.2 b (far b o z)).trans a⟩
 ·exact fun b o z f=>let ⟨o',a⟩:=I.base.there b o z f;⟨o',(hs.2 b (far b o z)).trans a⟩
 ·intro j y w D k T
  have C:j≠i:=fun z=>by
   subst z;have P:j<σ.length:=(yal.mp J).1;rw[yam P]at k;cases k
  rw[yax (Ne.symm C)]at k;obtain⟨F,r1,q⟩:=B j y w D k T;refine⟨F,r1,?_⟩
  rcases q with⟨k1,z⟩|⟨k1,c,z,a⟩
  ·have K:y≠x:=fun e=>C (zhB hN D (e ▸ hi))
   exact .inl ⟨k1,by simp[K,z]⟩
  ·exact .inr ⟨k1,c,z,a.sameBut hs (I.cne y c z)⟩
 ·exact fun y c z=>let ⟨w,a⟩:=I.cell y c z;⟨w,a.sameBut hs (I.cne y c z)⟩
 ·exact fun p R=>let ⟨z,n,ne,L,d⟩:=I.pin p R;⟨(hs.2 p.1 ne).trans z,n,ne,L,d⟩
 ·exact I.hok.same fun b o z n=>(hs.2 b fun e=>n (by rw[e];exact I.free)).trans z
def zhH(I:Inv X pins σ H s)(U:X.N.Nodup)(hi:X.N[i]?=some x)(J:X.env.scope.names.lookup x=some .local)
  (h:∀s',Inv X pins (σ.set i none) H s'->Q () s'):wpAny M A (do bindName X.env x .none;unbindBehindTheSuite X.env x pos) Q E s:=by
 refine yaa (wpAny_bindName (zdb (v:=.non) I U hi (.inl J) rfl (fun s2 d=>?_) (.inr J)));unfold unbindBehindTheSuite;refine wpAny_onRaise ?_
 have b:i<σ.length:=by rw[I.len];exact(yal.mp hi).1
 refine zrz d U hi J ⟨.non,yam b⟩ fun a c=>h a ?_
 rwa[ycv]at c
end
section
variable{X:Cx}{pins:Z3}{σ:St}{H H':Hp}{s s':Shared}{B h2:Heap}{a:Addr}{cls a0:Value}
noncomputable abbrev Cx.inH(X:Cx)(a:Addr):Cx:={X with A:=X.A.mark (some (.ref a)),calm:=false,xe:=fun _ _=>False}
theorem Inv.inH(I:Inv X pins σ H s)(a:Addr):Inv (X.inH a) pins σ H s:=
 ⟨⟨I.ok.mod,I.ok.kind,I.ok.glob,I.ok.blt,I.ok.above,I.ok.inj,I.ok.has,I.ok.cab,(fun z=>nomatch z),I.ok.frames,I.ok.stk,I.ok.exf,I.ok.bs,I.ok.bsz,I.ok.noex,I.ok.exfs,I.ok.funs,I.ok.frf⟩,I.os,I.bare,I.base,I.loc,I.cell,I.free,I.freeC,I.pin,I.hok,I.len⟩
def Inv.outH(J:X.Ok)(I:Inv (X.inH a) pins σ H s):Inv X pins σ H s:=⟨J,I.os,I.bare,I.base,I.loc,I.cell,I.free,I.freeC,I.pin,I.hok,I.len⟩
def zg9(I:Inv X pins σ H s)(J:Heap.FlyingW B X.stack a cls a0 h2)(up:s'.heap.UpToSlots h2)(c1:∀b o,s'.heap.get? b=some o->H' b≠none->B.get? b=some o)
  (c2:∀b o,s.heap.get? b=some o->H b=none->b ∉ frs X.stack->B.get? b=some o) (c3:∀b o,s.heap.get? b=some o->b ∉ frs X.stack->∃o',B.get? b=some o')
  (os:s'.os=s.os) (bare:AllBare s'.gens) (un:Un (frs X.stack) [] H H' s.heap s'.heap) (hok:HOk X.prog X.w H' s'.heap):
  Inv X pins σ H' {s' with heap:=h2}/\∃ob,ob.cls=cls/\h2.get? a=some ob/\H' a=none/\Inv X pins σ (upd H' a (.frz ob (.own a))) {s' with heap:=h2}:=by
 have trk:∀b o,s'.heap.get? b=some o->H' b≠none->h2.get? b=some o:=fun b o z n=>J.1 b o (c1 b o z n)
 have f:HOk X.prog X.w H' h2:=hok.same trk
 have i:∀b o,s.heap.get? b=some o->H b=none->b∈frs X.stack->∃j,h2.get? b=some {o with slots:=j}:=fun b o z n d=>by
  obtain⟨_,o',g,hd⟩:=I.stack.mem d;rw[z]at g;cases g;obtain⟨j,r⟩:=un.slot b o z n d (by simp);obtain⟨l,r'⟩:=up b ({o with slots:=j}:Obj) r hd;exact⟨l,r'⟩
 have th:∀b o,s.heap.get? b=some o->b ∉ ([]:List Addr)->∃o',h2.get? b=some o':=fun b o z _=>by
  by_cases d:b∈frs X.stack
  ·obtain⟨j,r⟩:=i b o z (I.stkFree b d) d;exact⟨_,r⟩
  ·obtain⟨o',r⟩:=c3 b o z d;exact⟨o',J.1 b o' r⟩
 have h:Un (frs X.stack) [] H H' s.heap h2:=⟨fun b o z n d _=>J.1 b o (c2 b o z n d),fun b o z n d _=>i b o z n d,un.free,th,un.tups,un.frzs,un.tbls⟩;refine⟨I.call' (s':={s' with heap:=h2}) (ch:=[]) os h f bare (fun b z=>absurd z (by simp)),?_⟩;obtain⟨p,vs,he,x,hd,_⟩:=J.first
 have t:H' a=none:=by
  cases k:H' a with
  |none=>rfl|some u=>
   obtain⟨o',g⟩:=(hok a u k).has;have:=c1 a o' g (by rw[k];exact yaE _);rw[J.2.1]at this;cases this
 have ns:∀o,s.heap.get? a=some o->False:=fun o z=>by
  by_cases d:a∈frs X.stack
  ·obtain⟨_,o',g,m⟩:=J.2.2.1.mem d;rw[he]at g;cases g;exact m _ hd
  ·obtain⟨o',r⟩:=c3 a o z d;rw[J.2.1]at r;cases r
 have ne:∀{b:Addr}{u:HO},H' b=some u->b≠a:=fun {b u} z e=>by rw[e,t]at z;cases z
 refine⟨p,x,he,t,I.call' (s':={s' with heap:=h2}) (ch:=[]) os ⟨h.keep,h.slot,fun b o z n v=>?_,th,fun b xs z=>?_,fun b o u z=>?_,fun b ps z=>?_⟩ (fun b u z=>?_) bare (fun b z=>absurd z (by simp))⟩
 ·rw[zai (a:=a) (b:=b) fun e=>ns o (by rw[<-e];exact z)];exact un.free b o z n v
 ·have:=un.tups b xs z;rw[zai (ne this)];exact this
 ·have:=un.frzs b o u z;rw[zai (ne this)];exact this
 ·obtain⟨more,this⟩:=un.tbls b ps z;exact⟨more,by rw[zai (ne this)];exact this⟩
 ·by_cases e:b=a
  ·subst e;unfold upd at z;rw[if_pos rfl]at z;cases z;exact⟨he,p,he⟩
  ·rw[zai e]at z;exact(f b u z).stay (fun _ _ _ q=>q) (fun c q=>by rw[zai (ne q)];exact q) (fun c xs q=>by rw[zai (ne q)];exact q)
end
noncomputable def zpd(K:PySem.W.Frag)(C D:Addr):Prop:=(∃c b,PySem.W.excIn K C c b=true)/\∃cd d cl a,K.lookup C=some ⟨cl,d,.cls cd,a⟩/\cd.mro.contains (.ref D)=true
noncomputable def Ends.goes(D:Ends)(i:Nat):Ends:={nx:=fun σ H=>D.nx (σ.set i none) H,rt:=D.rt,bk:=fun σ H=>D.bk (σ.set i none) H,ct:=fun σ H=>D.ct (σ.set i none) H}
def zqr{X:Cx}{a:Addr}{pins:Z3}{D:Ends}{i:Nat}{n:Str}{pos:Pos}{f:Flow}{s:Shared}{E:Z5}(J:X.Ok)(hN:X.N.Nodup)(hi:X.N[i]?=some n)(U:X.env.scope.names.lookup n=some .local)(h:SP (X.inH a) pins (D.goes i) f s):
  wpAny (model X.prog X.w) X.A (do bindName X.env n .none;unbindBehindTheSuite X.env n pos) (fun _ s3=>SP X pins D f s3) E s:=by
 cases f with
 |next=>
  obtain⟨b,H',I,q⟩:=h;exact zhH (I.outH J) hN hi U fun s' c=>⟨_,H',c,q⟩
 |brk=>
  obtain⟨b,H',I,q⟩:=h;exact zhH (I.outH J) hN hi U fun s' c=>⟨_,H',c,q⟩
 |cont=>
  obtain⟨b,H',I,q⟩:=h;exact zhH (I.outH J) hN hi U fun s' c=>⟨_,H',c,q⟩
 |ret u=>
  obtain⟨v,b,H',I,r,q⟩:=h;exact zhH (I.outH J) hN hi U fun s' c=>⟨v,_,H',c,r,q⟩
end L2
namespace PySem.W
open PySem
structure ExcCls(K:Frag)(C:Addr):Prop where
 ga:findIn K (.ref C) "__getattribute__"=some (some (.builtin "BaseException.__getattribute__"))
 gt:findIn K (.ref C) "__getattr__"=some none
 cl:findIn K (.ref C) "__class__"=some (some (.builtin "object.__class__"))
 ob:subIn K (.ref C) (.type "object")=some true
 be:subIn K (.ref C) (.type "BaseException")=some true
 is:∃c d cd sl,K.lookup C=some ⟨c,d,.cls cd,sl⟩
section
variable{prog:Program}{w:World}{A:Around}{E:Z5}{h:Heap}{g:Array GenState}{d:Drawn}{t:Nat}{os:OsState}{a C:Addr}{o:Obj}{K:Frag}
theorem zhM(k:K.In h)(X:ExcCls K C)(I:h.get? a=some o)(J:o.cls=.ref C)(U:R (.ok (.ret (.ref C))) ⟨h,g,d,t,os⟩):
  codeAny (model prog w) A (.call (.builtin "getset_descriptor.__get__") ⟨[.builtin "object.__class__",.ref a,.ref C],[]⟩) R ⟨h,g,d,t,os⟩:=by
 have b:Shared.TypeIs ⟨h,g,d,t,os⟩ (.builtin "object.__class__") "getset_descriptor":=ycT
 have c:subIn K (.ref C) (.type (".".intercalate ("object.__class__".cutAt '.').dropLast))=some true:=by rw[F.owner_object_class];exact X.ob
 refine codeAny_call_builtin F.slot_gs_get.plain F.entry_gs_get ?_;refine F.slot_gs_get.check _ _ _ _ _ _ _ _ b (F.args_gs_get _ _ _) ?_
 repeat (any_goals (first|assumption|(with_reducible refine ybz I ?_;rw[J])|with_reducible refine Looks.at (looks_subIn k c) ?_|wp_step))
 refine And.intro (Code.quiet_builtin _ (by decide +kernel)) ?_;refine codeAny_builtin F.entry_object_class ?_
 repeat (any_goals (first|assumption|(with_reducible refine ybz I ?_;rw[J])|wp_step))
def zgv(k:K.In h)(X:ExcCls K C)(I:h.get? a=some o)(J:o.cls=.ref C)(U:Q (.done (.ret (.ref C))) ⟨h,g,d,t,os⟩):
  wpAny (model prog w) A (Builtin.«object.__getattribute__» {pos:=[.ref a,.str "__class__" tk],kw:=[]}) Q E ⟨h,g,d,t,os⟩:=by
 have b:Shared.TypeIs ⟨h,g,d,t,os⟩ (.builtin "object.__class__") "getset_descriptor":=ycT;have known:=And.intro ycT (And.intro F.slot_gs_get.lookup F.slot_gs_set.lookup);obtain⟨p5,p6,c⟩:=known
 repeat (any_goals (first|assumption|(with_reducible refine ybz I ?_;rw[J])|with_reducible refine Looks.at (looks_findIn k X.cl) ?_|wp_step))
 refine zhM k X I J ?_
 repeat any_goals first|assumption|wp_step
end
section
variable{prog:Program}{w:World}{A:Around}{E:Z5}{h:Heap}{g:Array GenState}{d:Drawn}{t:Nat}{os:OsState}{a C:Addr}{o:Obj}{K:Frag}
theorem zgw(k:K.In h)(X:ExcCls K C)(J:h.get? a=some o)(hc:o.cls=.ref C)(U:Q () ⟨h,g,d,t,os⟩):
  wpAny M A (checkBuiltinCall "BaseException.__getattribute__" ⟨[.ref a,I],[]⟩) Q E ⟨h,g,d,t,os⟩:=by
 have k1:builtinKind "BaseException.__getattribute__"=some .slot:=by decide +kernel
 have k2:splitId "BaseException.__getattribute__"=some ("BaseException","__getattribute__"):=by decide +kernel
 have fits:=F.args_bexc_ga (.ref a) I;simp only[checkBuiltinCall,k1,k2];refine yaa ?_;unfold isInstance
 repeat (first|(with_reducible refine ybz J ?_;rw[hc])|with_reducible refine Looks.at (looks_subIn k X.be) ?_|wp_step)
 exact U
def zgL(k:K.In h)(X:ExcCls K C)(I:h.get? a=some o)(J:o.cls=.ref C)(U:R (.ok (.ret (.ref C))) ⟨h,g,d,t,os⟩):
  codeAny (model prog w) A (.call (.builtin "BaseException.__getattribute__") ⟨[.ref a,.str "__class__" tk],[]⟩) R ⟨h,g,d,t,os⟩:=
 codeAny_call_builtin F.attr_ValueError.ga.plain F.entry_bexc_ga (zgw k X I J (zgv k X I J U))
theorem ziJ(k:K.In h)(X:ExcCls K C)(I:h.get? a=some o)(J:o.cls=.ref C)(U:Q (.ref C) ⟨h,g,d,t,os⟩):
  wpAny (model prog w) A (getAttrBy (.ref a) (.str "__class__" tk) fill expr) Q E ⟨h,g,d,t,os⟩:=by
 have c:=F.attr_ValueError.ga.bind (.ref a)
 have b:(expr&&onTheHeap (Value.builtin "BaseException.__getattribute__"))=false:=by cases expr<;>rfl
 have n2:(Value.builtin "BaseException.__getattribute__"==Value.builtin "object.__getattribute__")=false:=by decide +kernel
 have n1:(onTheHeap (Value.ref C)&&Value.builtin "BaseException.__getattribute__"==Value.builtin "object.__getattribute__")=false:=by rw[n2];rfl
 repeat (any_goals (first|assumption|(with_reducible refine ybz I ?_;rw[J])|with_reducible refine Looks.at (looks_findIn k X.ga) ?_|with_reducible refine Looks.at (looks_findIn k X.gt) ?_|wp_step))
 refine zgL k X I J ?_
 repeat any_goals first|assumption|wp_step
def zgM(k:K.In h)(X:ExcCls K C)(I:h.get? a=some o)(J:o.cls=.ref C)(U:Q (some (.ref C)) ⟨h,g,d,t+1,os⟩):wpAny (model prog w) A (getAttr? (.ref a) "__class__") Q E ⟨h,g,d,t,os⟩:=by
 unfold getAttr? getAttrBy?
 repeat (any_goals (first|assumption|with_reducible apply ziJ k X I J|wp_step))
end
def zoL(X:ExcCls K C):KitX K (.ref a) (.ref C) (fun h=>∃o,h.get? a=some o/\o.cls=.ref C)where
 ty:=fun M h _ p=>by
  obtain⟨o,h1,h2⟩:=p;rw[<-h2];exact Looks.andThen (Looks.ld h1) .now
 it:=fun _ _ k _=>by
  obtain⟨c,d,cd,j,b⟩:=X.is;intro u m r s' kk q;unfold isType loadHead;exact yaa (wpAny_loadPart (kk _ _ (k _ _ b)) (yae q))
 ne:=fun h tp dd l n j k f=>by
  obtain⟨c,d,cd,i,b⟩:=X.is;refine Bool.eq_false_iff.mpr fun q=>?_
  have e:C=tp:=Value.ref.inj (yce.mp q);have z:=k _ _ b;rw[e,f]at z;cases z
 ca:=fun {_ _ _ _ _ s} k p q=>by
  obtain⟨o,h1,h2⟩:=p;obtain⟨h,g,d,t,os⟩:=s;exact zgM k X h1 h2 q
end PySem.W
namespace L2
open PySem PySem.Spec PyProof.Rows
def zlg:zeC X (.builtin "isinstance") (fun xs H Q=>∃(a C:Addr) (ob:Obj) (c:V) (J:Value) (k:Bool),xs=[.ref a,c]/\H a=some (.frz ob (.own a))/\ob.cls=.ref C/\PySem.W.ExcCls X.K C/\(∀u,zbu c u->u=J)/\PySem.W.kitOne X.K (.ref C) J=some k/\Q (.bl k) H):=by
 intro pins s σ H xs us Q I r h;obtain⟨a,C,ob,c,J,k,rfl,j,i,Z,g,e,q⟩:=h
 cases r with
 |cons r1 b=>
  cases b with
  |cons f d=>
   cases d;cases (show _=Value.ref a from r1);rw[g _ f];obtain⟨h1,_⟩:=(show zbJ X.prog X.w H s.heap a (.frz ob (.own a))from I.hok a _ j);exact ya9 (PySem.W.zoL Z) I.kIn ⟨ob,h1,i⟩ e (fun z=>nomatch z) fun tk=>⟨.bl k,H,I.tok tk,rfl,q⟩
open PySem PySem.Spec PyProof.Rows PySem.SeqAt
theorem zj1(ns:List Int):∀j,j<=ns.length->preSum (fun i=>ns.getD i 0) j=(ns.take j).sum
 |0,_=>by rw[List.take_zero];rfl
 |j+1,h=>by
  have a:=zj1 ns j (by omega);show preSum _ j+ns.getD j 0=_
  have e:ns.take (j+1)=ns.take j++[ns[j]]:=by rw[ycQ,yad (by omega)];rfl
  have b:ns.getD j 0=ns[j]:=by simp[List.getD,show j<ns.length by omega]
  rw[a,e,b,yc8];simp
theorem zit(ns:List Int)(h:∀n∈ns,0<=n/\n<=1000000):∀j,j<=ns.length->0<=preSum (fun i=>ns.getD i 0) j/\preSum (fun i=>ns.getD i 0) j<=1000000*(j:Int)
 |0,_=>⟨Int.le_refl _,Int.le_refl _⟩|j+1,b=>by
  have a:=zit ns h j (by omega)
  have e:ns.getD j 0=ns[j]:=by simp[List.getD,show j<ns.length by omega]
  have c:=h ns[j] (ybe (by omega));show 0<=preSum _ j+ns.getD j 0/\preSum _ j+ns.getD j 0<=_;rw[e]
  push_cast
  omega
section
variable{X:Cx}
theorem zo5(J:X.calm=true):zeC X (.builtin "sum") (fun xs H Q=>∃(p:Addr) (ns:List Int),xs=[.ref p]/\SqL X.K H p (ns.map V.int)/\ns.length<=1000/\(∀n∈ns,0<=n/\n<=1000000)/\Q (.int ns.sum) H):=by
 intro pins s σ H xs us Q I r h;obtain⟨p,ns,rfl,D,d,y,q⟩:=h;obtain⟨u,rfl,B⟩:=zh2 r;cases B;obtain⟨a,l,pl,G⟩:=I.list D;have k:=pl.isList
 have c:p<s.heap.objs.size:=by obtain⟨_,e,_⟩:=k;exact yao e
 have g:a.length=ns.length:=by have:=l.length;rw[yaf]at this;exact this.symm
 refine call_sum_walk (ycN k ?_);refine⟨s.heap.objs.size,[s.heap.objs.size,p],[s.heap.objs.size],a.toArray.size,_,_,fun i=>ns.getD i 0,rfl,Walks.list (A:=X.A.in1) (I.ok.hd J) _ p (yaz c) a.toArray,⟨⟨_,yaq _ rfl,rfl,rfl⟩,k.push _⟩,fun b hm=>?_,fun i v F=>?_,fun j f=>?_,fun h' tk t' E=>?_⟩
 ·show b<(s.heap.push _).objs.size;rw[ya6];simp only[yan,yaM,ybY]at hm
  rcases hm with z|z
  ·rw[z];exact yb2 _
  ·rw[z];exact ydl c
 ·have m:a[i]?=some v:=by simpa using F
  have hi:i<ns.length:=by rw[<-g];exact(yal.mp m).1
  obtain⟨u,w,C⟩:=l.get (i:=i) (x:=.int ns[i]) (by rw[yaw,yad hi];rfl);rw[m]at w;cases w;obtain⟨t,rfl⟩:=C;exact⟨t,by simp[List.getD,hi]⟩
 ·rw[yah,g]at f;have h1:=zit ns y (j+1) f
  have e:ns.getD j 0=ns[j]:=by simp[List.getD,f]
  have h2:=y ns[j] (ybe f);refine⟨?_,?_⟩
  ·show InLong (ns.getD j 0);rw[e];exact⟨by omega,by omega⟩
  ·have:((j+1:Nat):Int)<=1000:=by omega
   exact⟨by omega,by omega⟩
 ·rw[yah,g,zj1 ns ns.length (yag _),List.take_length];refine⟨.int _,H,I.kept (t':=tk) fun b o e=>?_,⟨t',rfl⟩,q⟩;exact E b o (fun hm=>by rw[yaI.mp hm]at e;exact yaW _ (yao e)) (yac _ e)
end
end L2
namespace S2
open PySem PySem.Spec PyProof.Rows L2
mutual
noncomputable def D.py:D->PyData
 |.non=>.none|.bl b=>.bool b|.int i=>.int i|.str x=>.str x|.tup l=>.tuple (D.pys l)|.lst l=>.list (D.pys l)|.scr l=>.list (l.map PyData.int)|.dic _=>.none|.ref _=>.none|.exc _=>.none
noncomputable def D.pys:List D->List PyData
 |[]=>[]|d::l=>d.py::D.pys l
end
mutual
noncomputable def D.fit:Nat->D->Bool
 |_,.non=>true|_,.bl _=>true|_,.int _=>true|_,.str x=>PyData.strOk x|0,.tup _=>false|n+1,.tup l=>D.fits n l|0,.lst _=>false|n+1,.lst l=>D.fits n l|0,.scr _=>false|_+1,.scr _=>true|_,.dic _=>false|_,.ref _=>false|_,.exc _=>false
noncomputable def D.fits:Nat->List D->Bool
 |_,[]=>true|n,d::l=>d.fit n&&D.fits n l
end
theorem D.fits_iff:∀{l:List D},D.fits n l=true↔∀d∈l,d.fit n=true
 |[]=>by simp[D.fits]
 |d::l=>by simp[D.fits,D.fits_iff (l:=l)]
theorem zkj:∀(l:List Int),PyData.canLayAll0 (l.map PyData.int)=true/\PyData.depthAll (l.map PyData.int)=0
 |[]=>⟨rfl,rfl⟩|i::l=>by
  obtain⟨a,b⟩:=zkj l;exact⟨by simp[PyData.canLayAll0,PyData.canLay0,a],by simp[PyData.depthAll,PyData.depth,b]⟩
mutual
theorem D.lay:∀{n:Nat}{d:D},d.fit n=true->d.py.canLay0=true/\d.py.depth<=n
 |_,.non,_=>⟨rfl,yaF _⟩|_,.bl _,h=>⟨rfl,yaF _⟩|_,.int _,_=>⟨rfl,yaF _⟩|_,.str x,h=>⟨by simpa[D.fit,D.py,PyData.canLay0]using h,yaF _⟩
 |0,.tup _,h=>by simp[D.fit]at h
 |0,.lst _,h=>by simp[D.fit]at h
 |0,.scr _,h=>by simp[D.fit]at h
 |n+1,.scr l,h=>by
  obtain⟨a,b⟩:=zkj l;exact⟨by simpa[D.py,PyData.canLay0]using a,by simp only[D.py,PyData.depth];omega⟩
 |_,.dic _,h=>by simp[D.fit]at h
 |_,.ref _,h=>by simp[D.fit]at h
 |_,.exc _,h=>by simp[D.fit]at h
 |n+1,.tup l,h=>by
  have h':D.fits n l=true:=by simpa[D.fit]using h
  obtain⟨a,b⟩:=D.lays h';exact⟨by simpa[D.py,PyData.canLay0]using a,by simp only[D.py,PyData.depth];omega⟩
 |n+1,.lst l,h=>by
  have h':D.fits n l=true:=by simpa[D.fit]using h
  obtain⟨a,b⟩:=D.lays h';exact⟨by simpa[D.py,PyData.canLay0]using a,by simp only[D.py,PyData.depth];omega⟩
theorem D.lays:∀{n:Nat}{l:List D},D.fits n l=true->PyData.canLayAll0 (D.pys l)=true/\PyData.depthAll (D.pys l)<=n
 |_,[],_=>⟨rfl,yaF _⟩|n,d::l,h=>by
  simp only[D.fits,yab]at h;obtain⟨a,b⟩:=D.lay h.1;obtain⟨c,e⟩:=D.lays h.2;exact⟨by simp[D.pys,PyData.canLayAll0,a,c],by simp only[D.pys,PyData.depthAll];omega⟩
end
section
variable{X:Cx}{cl:Cf}{w:Wd}
def TopV.lstI(h:TopV cl w v (.lst ds)):∃a xs,v=.ref a/\w.H a=some (.lst xs)/\Shds cl w xs ds:=by
 cases h with
 |sh h=>cases h with
  |lst e k r=>exact⟨_,_,rfl,e,r⟩
 |ow e t=>cases t with
  |lst r=>exact⟨_,_,rfl,e,r⟩
def TopV.tupI(h:TopV cl w v (.tup ds)):∃a xs,v=.ref a/\w.H a=some (.tup xs)/\w.ow a=none/\Shds cl w xs ds:=by
 cases h with
 |sh h=>cases h with
  |tup e k r=>exact⟨_,_,rfl,e,k,r⟩
 |ow e t=>cases t
def TopV.intI(h:TopV cl w v (.int i)):v=.int i:=by
 cases h with
 |sh h=>cases h;rfl|ow e t=>cases t
def TopV.strI(h:TopV cl w v (.str i)):v=.str i:=by
 cases h with
 |sh h=>cases h;rfl|ow e t=>cases t
def TopV.blI(h:TopV cl w v (.bl i)):v=.bl i:=by
 cases h with
 |sh h=>cases h;rfl|ow e t=>cases t
def TopV.nonI(h:TopV cl w v .non):v=.non:=by
 cases h with
 |sh h=>cases h;rfl|ow e t=>cases t
def Shd.scrI(I:X.K=cl.K)(h:Shd cl w v (.scr l)):∃a,v=.ref a/\SqL X.K w.H a (l.map V.int):=by
 cases h with
 |scr e k=>exact⟨_,rfl,.inl (.inr ⟨_,e⟩)⟩|scrK h=>exact⟨_,rfl,by rw[I];exact h _⟩
theorem TopV.scrI(I:X.K=cl.K)(h:TopV cl w v (.scr l)):∃a,v=.ref a/\SqL X.K w.H a (l.map V.int):=by
 cases h with
 |sh h=>exact h.scrI I|ow e t=>cases t
def zjW(I:Inv X pins σ w.H s)(J:X.K=cl.K)(h:Shd cl w v (.scr l))(r:zbu v u):∃as,Reads s.heap u (D.scr l).py as:=by
  obtain⟨a,rfl,f⟩:=h.scrI J;cases r;obtain⟨d,c,p,_⟩:=I.list f;obtain⟨o,g,j,n,hd⟩:=id p.isList
  have go:∀{l:List Int}{us:List Value},Vals (l.map V.int) us->∃as,ReadsAll s.heap us (l.map PyData.int) as:=by
   intro l
   induction l with
   |nil=>intro us h;cases h;exact⟨_,.nil⟩|cons i l e=>
    intro us h
    cases h with
    |cons h1 h2=>
     obtain⟨t,rfl⟩:=h1;obtain⟨as,b⟩:=e h2;exact⟨_,.cons (.int i t) b⟩
  obtain⟨as,b⟩:=go c;exact⟨_,.list g j hd (by simpa using b)⟩
def ztb{pins:Z3}{σ:St}{s:Shared}(I:Inv X pins σ w.H s)(J:X.K=cl.K){v:V}{d:D}{n:Nat}(h:Shd cl w v d):d.fit n=true->∀{u:Value},zbu v u->∃as,Reads s.heap u d.py as:=by
 refine Shd.rec (motive_1:=fun v d _=>∀{n:Nat},d.fit n=true->∀{u:Value},zbu v u->∃as,Reads s.heap u d.py as) (motive_2:=fun vs ds _=>∀{n:Nat},D.fits n ds=true->∀{us:List Value},Vals vs us->∃as,ReadsAll s.heap us (D.pys ds) as) (fun _ _ r=>by cases r;exact⟨_,.none⟩) (fun b _ _ _ r=>by cases r;exact⟨_,.bool b⟩) (fun i _ _ _ r=>by obtain⟨t,rfl⟩:=r;exact⟨_,.int i t⟩) (fun x _ _ _ r=>by obtain⟨t,rfl⟩:=r;exact⟨_,.str x t⟩) (fun e _ _ l n h _ r=>?_) (fun e _ _ l n h _ r=>?_) (fun _ _ _ _ h=>by simp[D.fit]at h) (fun _ _ h=>by simp[D.fit]at h) (fun e k _ _ _ r=>zjW I J (.scr e k) r) (fun e _ _ _ r=>zjW I J (.scrK e) r) (fun _ _ _ _ h=>by simp[D.fit]at h) (fun _ _ r=>by cases r;exact⟨_,.nil⟩) (fun _ _ a b n f _ r=>?_) h
 ·cases n with
  |zero=>simp[D.fit]at h|succ n=>
   cases r;obtain⟨j,c,p,_⟩:=I.tuple (SqT.of (K:=X.K) e);obtain⟨o,m,q,n,hd⟩:=id p;obtain⟨as,g⟩:=l (by simpa[D.fit]using h) c;exact⟨_,.tuple m q hd (by simpa using g)⟩
 ·cases n with
  |zero=>simp[D.fit]at h|succ n=>
   cases r;obtain⟨j,c,p,_⟩:=I.list (SqL.of (K:=X.K) e);obtain⟨o,m,q,n,hd⟩:=id p.isList;obtain⟨as,g⟩:=l (by simpa[D.fit]using h) c;exact⟨_,.list m q hd (by simpa using g)⟩
 ·simp only[D.fits,yab]at f
  cases r with
  |cons r1 y=>
   obtain⟨as,a⟩:=a f.1 r1;obtain⟨bs,b⟩:=b f.2 y;exact⟨_,.cons a b⟩
def zma{pins:Z3}{σ:St}{s:Shared}(I:Inv X pins σ w.H s)(J:X.K=cl.K){vs:List V}{ds:List D}{n:Nat}(h:Shds cl w vs ds):D.fits n ds=true->∀{us:List Value},Vals vs us->∃as,ReadsAll s.heap us (D.pys ds) as:=
 h.ind (p:=fun vs ds=>D.fits n ds=true->∀{us:List Value},Vals vs us->∃as,ReadsAll s.heap us (D.pys ds) as) (fun _ _ r=>by cases r;exact⟨_,.nil⟩) fun h _ d f _ r=>by
  simp only[D.fits,yab]at f
  cases r with
  |cons r1 c=>
   obtain⟨as,a⟩:=ztb I J h f.1 r1;obtain⟨bs,b⟩:=d f.2 c;exact⟨_,.cons a b⟩
def zl9(I:Inv X pins σ w.H s)(J:X.K=cl.K)(h:TopV cl w v d)(f:d.fit n=true)(r:zbu v u):∃as,Reads s.heap u d.py as:=by
 cases h with
 |sh h=>exact ztb I J h f r|ow e t=>
  cases t with
  |lst rs=>
   cases n with
   |zero=>simp[D.fit]at f|succ n=>
    cases r;obtain⟨c,a,p,_⟩:=I.list (SqL.of (K:=X.K) e);obtain⟨o,g,i,n,hd⟩:=id p.isList;obtain⟨as,b⟩:=zma I J rs (by simpa[D.fit]using f) a;exact⟨_,.list g i hd (by simpa using b)⟩
  |dicX _=>simp[D.fit]at f
noncomputable def zgW(d e:D):Bool:=d.py.eqv e.py
def eqD(d e:D):Option D:=if d.fit 9&&e.fit 9 then some (.bl (zgW d e))else none
noncomputable def neD(d e:D):Option D:=if d.fit 9&&e.fit 9 then some (.bl (!zgW d e))else none
theorem zvW(J:X.K=cl.K)(U:X.A.units+64<cLine):OpD X cl (compareOp .Eq) eqD:=by
 intro pins s σ H x y v u Q I c b h;obtain⟨w,d,e,r,rfl,l,k,a,q⟩:=h;unfold eqD at a;split at a
 ·rename_i hf;cases a;rw[yab]at hf;obtain⟨as,g⟩:=zl9 I J l hf.1 c;obtain⟨bs,f⟩:=zl9 I J k hf.2 b;obtain⟨j,d1⟩:=D.lay hf.1;obtain⟨i,d2⟩:=D.lay hf.2;exact SeqAt.compareEq_reads g f j i (by omega) ⟨.bl _,w.H,I,rfl,q _ w (Grow.refl _) (.bl _)⟩
 ·cases a
def zvV(J:X.K=cl.K)(U:X.A.units+64<cLine):OpD X cl (compareOp .NotEq) neD:=by
 intro pins s σ H x y v u Q I c b h;obtain⟨w,d,e,r,rfl,l,k,a,q⟩:=h;unfold neD at a;split at a
 ·rename_i hf;cases a;rw[yab]at hf;obtain⟨as,g⟩:=zl9 I J l hf.1 c;obtain⟨bs,f⟩:=zl9 I J k hf.2 b;obtain⟨j,d1⟩:=D.lay hf.1;obtain⟨i,d2⟩:=D.lay hf.2;exact SeqAt.compareNe_reads g f j i (by omega) ⟨.bl _,w.H,I,rfl,q _ w (Grow.refl _) (.bl _)⟩
 ·cases a
noncomputable def zlR:D->Option (List D)|.lst l=>some l|.tup l=>some l|_=>none
noncomputable def znE(d:D)(l:List D):Bool:=l.any fun e=>zgW e d
def zoC(d e:D):Option D:=match zlR e with|some l=>if d.fit 8&&D.fits 8 l then some (.bl (!znE d l))else none|none=>none
def zha{s:Shared}{I:List Value}{d:D}(J:ReadsAll s.heap I (D.pys ds) as)(f:D.fits 8 ds=true):(I.toArray.any fun y=>(SeqAt.readOf s.heap y).eqv d.py)=znE d ds:=by
 rw[SeqAt.any_by_data (vs:=I.toArray) (xs:=D.pys ds) (as:=as) (by simpa using J) (D.lays f).1]
 have:∀{l:List D},((D.pys l).any fun y=>y.eqv d.py)=znE d l:=by
  intro l
  induction l with
  |nil=>rfl|cons e l a=>
   show(e.py.eqv d.py||(D.pys l).any fun y=>y.eqv d.py)=(zgW e d||znE d l);rw[a];rfl
 exact this
theorem zgg{A:Around}{s:Shared}{d:D}(U:A.units+64<cLine)(J:Reads s.heap x d.py bs)(fd:d.fit 8=true):∀{I:List Value}{ds:List D}{as:List Addr},ReadsAll s.heap I (D.pys ds) as->D.fits 8 ds=true->∀y,y∈I.toArray->SeqAt.EqAt A.in1 s y x ((SeqAt.readOf s.heap y).eqv d.py)
 |[],[],_,_,_,y,a=>by simp at a
 |[],_::_,_,h,_,_,_=>by cases h
 |_::_,[],_,h,_,_,_=>by cases h
 |v::I,e::ds,_,h,f,y,a=>by
  simp only[D.fits,yab]at f
  cases h with
  |cons h1 h2=>
   simp at a
   rcases a with rfl|a
   ·rw[zqJ (D.lay f.1).1 h1];refine SeqAt.eqAt_reads _ _ _ _ _ _ _ _ h1 J (D.lay f.1).1 (D.lay fd).1 ?_;have:=(D.lay f.1).2;show A.units+1+_<cLine;omega
   ·exact zgg U J fd h2 f.2 y (by simpa using a)
def zqz(h:zlR e=some l):e=.lst l\/e=.tup l:=by
 cases e<;>simp[zlR]at h
 ·exact .inr (by rw[h])
 ·exact .inl (by rw[h])
def ztS(J:X.K=cl.K)(U:X.A.units+64<cLine):OpD X cl (compareOp .NotIn) zoC:=by
 intro pins s σ H x y v u Q I m i h;obtain⟨w,d,e,r,rfl,n,k,b,q⟩:=h;unfold zoC at b;split at b
 ·rename_i l o;split at b
  ·rename_i hf;cases b;rw[yab]at hf;obtain⟨bs,j⟩:=zl9 I J n hf.1 m
   rcases zqz o with rfl|rfl
   ·obtain⟨a,xs,rfl,e,rs⟩:=k.lstI;cases i;obtain⟨g,f,p,_⟩:=I.list (SqL.of (K:=X.K) e);obtain⟨as,c⟩:=zma I J rs hf.2 f;refine SeqAt.notIn_listAt _ p.isList (zgg U j hf.1 c hf.2) ?_;rw[zha c hf.2];exact⟨.bl _,w.H,I,rfl,q _ w (Grow.refl _) (.bl _)⟩
   ·obtain⟨a,xs,rfl,e,_,rs⟩:=k.tupI;cases i;obtain⟨g,f,p,_⟩:=I.tuple (SqT.of (K:=X.K) e);obtain⟨as,c⟩:=zma I J rs hf.2 f;refine SeqAt.notIn_tupleAt _ p (zgg U j hf.1 c hf.2) ?_;rw[zha c hf.2];exact⟨.bl _,w.H,I,rfl,q _ w (Grow.refl _) (.bl _)⟩
  ·cases b
 ·cases b
def zbG:D->D->Option D
 |.int i,.int j=>some (.int (i+j))|.tup a,.tup b=>if zbh (a.length+b.length)then some (.tup (a++b))else none
 |.lst a,.lst b=>if zbh (a.length+b.length)then some (.lst (a++b))else none
 |.str a,.str b=>if zbh (a.length+b.length)then some (.str (a++b))else none
 |_,_=>none
def ztX:OpD X cl (binaryOp .Add) zbG:=by
 intro pins s σ H x y v u Q I m k h;obtain⟨w,d,e,r,rfl,B,A,f,q⟩:=h;unfold zbG at f;split at f
 ·cases f;rename_i i j;obtain rfl:=B.intI;obtain rfl:=A.intI;exact ztM pins s σ w.H _ _ v u Q I m k ⟨i,j,rfl,rfl,q _ w (Grow.refl _) (.int _)⟩
 ·rename_i a b;split at f
  ·rename_i n;cases f;obtain⟨p,xs,rfl,ep,kp,rs⟩:=B.tupI;obtain⟨p2,ys,rfl,g,C,c⟩:=A.tupI
   by_cases o:xs=[]
   ·subst o;cases rs;exact zoy pins s σ w.H _ _ v u Q I m k ⟨p,p2,ys,rfl,rfl,SqT.of ep,SqT.of g,q _ w (Grow.refl _) (.tup g C c)⟩
   ·refine zrb pins s σ w.H _ _ v u Q I m k ⟨p,p2,xs,ys,rfl,rfl,SqT.of ep,SqT.of g,o,by rw[rs.length,c.length];exact zbm n,fun z=>?_,fun z l t=>?_⟩
    ·subst z;cases c;rw[ya3]at q;exact q _ w (Grow.refl _) (.tup ep kp rs)
    ·exact q _ (w.add l _) (zaC t _) (Shd.newT t (rs.append c))
  ·cases f
 ·rename_i a b;split at f
  ·rename_i n;cases f;obtain⟨p,xs,rfl,ep,rs⟩:=B.lstI;obtain⟨p2,ys,rfl,g,c⟩:=A.lstI;exact ztL pins s σ w.H _ _ v u Q I m k ⟨p,p2,xs,ys,rfl,rfl,ep,g,by rw[rs.length,c.length];exact zbm n,fun l t=>q _ (w.add l _) (zaC t _) (Shd.newL t (rs.append c))⟩
  ·cases f
 ·rename_i a b;split at f
  ·rename_i n;cases f;obtain rfl:=B.strI;obtain rfl:=A.strI;exact zkV pins s σ w.H _ _ v u Q I m k ⟨a,b,rfl,rfl,zbm n,q _ w (Grow.refl _) (.str _)⟩
  ·cases f
 ·cases f
noncomputable def zlm:D->D->Option D|.int i,.int j=>some (.int (i-j))|_,_=>none
def ztR:OpD X cl (binaryOp .Sub) zlm:=by
 intro pins s σ H x y v u Q I c b h;obtain⟨w,d,e,r,rfl,g,f,a,q⟩:=h;unfold zlm at a;split at a
 ·cases a;rename_i i j;obtain rfl:=g.intI;obtain rfl:=f.intI;exact ztG pins s σ w.H _ _ v u Q I c b ⟨i,j,rfl,rfl,q _ w (Grow.refl _) (.int _)⟩
 ·cases a
noncomputable def zci(i:Int):Bool:=decide (-(2 ^ 64)<i/\i<2 ^ 64)
def zff:D->D->Option D
 |.int i,.int j=>if zci i||zci j then some (.int (i*j))else none
 |.tup a,.int j=>if decide (1<=j/\j<=1000/\a≠[]/\a.length<=1000)then some (.tup (List.replicate j.toNat a).flatten)else none
 |.lst a,.int j=>if decide (0<=j/\j<=1000/\a.length<=1000)then some (.lst (List.replicate j.toNat a).flatten)else none
 |_,_=>none
theorem ztT:OpD X cl (binaryOp .Mult) zff:=by
 intro pins s σ H x y v u Q I A m h;obtain⟨w,d,e,r,rfl,C,B,b,q⟩:=h;unfold zff at b;split at b
 ·rename_i i j;split at b
  ·rename_i f;cases b;obtain rfl:=C.intI;obtain rfl:=B.intI;refine ztI pins s σ w.H _ _ v u Q I A m ⟨i,j,rfl,rfl,?_,q _ w (Grow.refl _) (.int _)⟩;rw[Bool.or_eq_true]at f;exact f.imp (fun z=>yai z) fun z=>yai z
  ·cases b
 ·rename_i a j;split at b
  ·rename_i f;cases b;have g:=yai f;obtain⟨p,xs,rfl,ep,kp,rs⟩:=C.tupI;obtain rfl:=B.intI;have c:=rs.length;obtain⟨k,rfl⟩:∃k:Nat,j=(k:Int):=⟨j.toNat,by omega⟩;have D:xs≠[]:=fun z=>g.2.2.1 (by cases a with|nil=>rfl|cons _ _=>rw[z]at c;cases c)
   by_cases G:k=1
   ·subst G;cases A;obtain⟨t,rfl⟩:=m;obtain⟨E,L,⟨o,F,J,n,hd⟩,_⟩:=I.tuple (SqT.of (K:=X.K) ep);refine PySem.zoE F J hd ⟨.ref p,w.H,I,rfl,q _ w (Grow.refl _) (.tup ep kp ?_)⟩;simpa using rs
   ·refine zq8 pins s σ w.H _ _ v u Q I A m ⟨p,k,xs,rfl,rfl,SqT.of ep,D,by omega,by omega,by omega,fun l c=>q _ (w.add l _) (zaC c _) (Shd.newT c (rs.flat _))⟩
  ·cases b
 ·rename_i a j;split at b
  ·rename_i f;cases b;have g:=yai f;obtain⟨p,xs,rfl,ep,rs⟩:=C.lstI;obtain rfl:=B.intI;have c:=rs.length;refine ztH pins s σ w.H _ _ v u Q I A m ⟨p,j,xs,rfl,rfl,ep,by omega,by omega,?_,fun l c=>q _ (w.add l _) (zaC c _) (Shd.newL c (rs.flat _))⟩;refine yak (ybN (show xs.length<=1000 by omega) (show j.toNat<=1000 by omega)) (by decide)
  ·cases b
 ·cases b
noncomputable def zkc:D->D->Option D|.int i,.int j=>if 0<j then some (.int (i % j))else none|_,_=>none
noncomputable def zpU:D->D->Option D|.int i,.int j=>if 0<j/\j<1073741824 then some (.int (i / j))else none|_,_=>none
def ztU:OpD X cl (binaryOp .Mod) zkc:=by
 intro pins s σ H x y v u Q I c b h;obtain⟨w,d,e,r,rfl,k,g,a,q⟩:=h;unfold zkc at a;split at a
 ·rename_i i j;split at a
  ·rename_i f;cases a;obtain rfl:=k.intI;obtain rfl:=g.intI;exact ztJ pins s σ w.H _ _ v u Q I c b ⟨i,j,rfl,rfl,f,q _ w (Grow.refl _) (.int _)⟩
  ·cases a
 ·cases a
def ztW:OpD X cl (binaryOp .FloorDiv) zpU:=by
 intro pins s σ H x y v u Q I c b h;obtain⟨w,d,e,r,rfl,k,g,a,q⟩:=h;unfold zpU at a;split at a
 ·rename_i i j;split at a
  ·rename_i f;cases a;obtain rfl:=k.intI;obtain rfl:=g.intI;exact zra pins s σ w.H _ _ v u Q I c b ⟨i,j,rfl,rfl,f,q _ w (Grow.refl _) (.int _)⟩
  ·cases a
 ·cases a
noncomputable def zrf:D->Option D|.int i=>some (.int (-i))|_=>none
def zsh:UnD X cl (unaryOp .USub) zrf:=by
 intro pins s σ H x v Q I b h;obtain⟨w,d,r,rfl,c,a,q⟩:=h;unfold zrf at a;split at a
 ·cases a;rename_i i;obtain rfl:=c.intI;exact zsg pins s σ w.H _ v Q I b ⟨i,rfl,q _ w (Grow.refl _) (.int _)⟩
 ·cases a
noncomputable def zr9(p:Int->Int->Bool):D->D->Option D|.int i,.int j=>some (.bl (p i j))|_,_=>none
def zhA(ho:OpR X (compareOp op) (rI0 fun i j=>.bl (p i j))):OpD X cl (compareOp op) (zr9 p):=by
 intro pins s σ H x y v u Q I c b h;obtain⟨w,d,e,r,rfl,g,f,a,q⟩:=h;unfold zr9 at a;split at a
 ·cases a;rename_i i j;obtain rfl:=g.intI;obtain rfl:=f.intI;exact ho pins s σ w.H _ _ v u Q I c b ⟨i,j,rfl,rfl,q _ w (Grow.refl _) (.bl _)⟩
 ·cases a
noncomputable def zdF:D->Bool|.non=>true|_=>false
def zki(d e:D):Option D:=if zdF e then some (.bl (zdF d))else none
def zkW(d e:D):Option D:=if zdF e then some (.bl (!zdF d))else none
def TopV.non_iff(h:TopV cl w v d):decide (v=.non)=zdF d:=by
 cases h with
 |sh h=>cases h<;>simp[zdF]|ow e t=>cases t<;>simp[zdF]
def ziE(h:zdF d=true):d=.non:=by cases d<;>simp[zdF]at h;rfl
def ztV:OpD X cl (compareOp .Is) zki:=by
 intro pins s σ H x y v u Q I f c h;obtain⟨w,d,e,r,rfl,i,b,a,q⟩:=h;unfold zki at a;split at a
 ·rename_i g;cases a;rw[ziE g]at b;obtain rfl:=b.nonI;refine ztK pins s σ w.H _ _ v u Q I f c ⟨rfl,?_⟩;rw[i.non_iff];exact q _ w (Grow.refl _) (.bl _)
 ·cases a
def zre:OpD X cl (compareOp .IsNot) zkW:=by
 intro pins s σ H x y v u Q I f c h;obtain⟨w,d,e,r,rfl,i,b,a,q⟩:=h;unfold zkW at a;split at a
 ·rename_i g;cases a;rw[ziE g]at b;obtain rfl:=b.nonI;refine zq9 pins s σ w.H _ _ v u Q I f c ⟨rfl,?_⟩;rw[i.non_iff];exact q _ w (Grow.refl _) (.bl _)
 ·cases a
def ixD:D->D->Option D
 |.lst l,.int i=>atI l i|.tup l,.int i=>atI l i|.scr l,.int i=>(atI l i).map D.int|_,_=>none
def zjP(r:Shds cl w xs ds)(h:atI ds i=some d):∃v,atI xs i=some v/\Shd cl w v d:=by
 unfold atI at h ⊢;rw[r.length]
 cases e:ixN ds.length i with
 |none=>rw[e]at h;cases h|some j=>
  rw[e]at h;exact r.at h
def zwf(J:X.K=cl.K):IxD X cl ixD:=by
 intro value slice pins s σ H x y v u Q I m g h a;obtain⟨w,d,e,r,rfl,o,n,b,q⟩:=h;unfold ixD at b;split at b
 ·rename_i l i;obtain⟨p,xs,rfl,ep,rs⟩:=o.lstI;obtain rfl:=n.intI;obtain⟨z,f,A⟩:=zjP rs b;exact zmV value slice pins s σ w.H _ _ v u Q I m g ⟨p,xs,i,z,rfl,rfl,SqL.of ep,f,q _ w (Grow.refl _) A⟩ a
 ·rename_i l i;obtain⟨p,xs,rfl,ep,_,rs⟩:=o.tupI;obtain rfl:=n.intI;obtain⟨z,f,A⟩:=zjP rs b;exact zum value slice pins s σ w.H _ _ v u Q I m g ⟨p,xs,i,z,rfl,rfl,SqT.of ep,f,q _ w (Grow.refl _) A⟩ a
 ·rename_i l i;obtain⟨p,rfl,ep⟩:=o.scrI J;obtain rfl:=n.intI
  cases c:atI l i with
  |none=>rw[c]at b;cases b|some k=>
   rw[c]at b;cases b
   have f:atI (l.map V.int) i=some (.int k):=by
    unfold atI at c ⊢;rw[yaf]
    cases e:ixN l.length i with
    |none=>rw[e]at c;cases c|some j=>
     rw[e]at c;have t:l[j]?=some k:=c;show(l.map V.int)[j]?=_;rw[yaw,t];rfl
   exact zmV value slice pins s σ w.H _ _ v u Q I m g ⟨p,_,i,_,rfl,rfl,ep,f,q _ w (Grow.refl _) (.int _)⟩ a
 ·cases b
def zeg:List D->Option D
 |[.lst l]=>some (.int l.length)|[.tup l]=>some (.int l.length)|[.scr l]=>some (.int l.length)|[.str x]=>if zbh x.length then some (.int x.length)else none
 |_=>none
def zuG(J:X.K=cl.K):zlk X cl (.builtin "len") zeg:=by
 intro pins s σ H xs us Q I r h;obtain⟨w,ds,d,rfl,b,a,q⟩:=h;unfold zeg at a;split at a
 ·rename_i l;cases a
  cases b with
  |cons h1 h2=>
   cases h2;obtain⟨p,ys,rfl,ep,rs⟩:=h1.lstI;refine zcP pins s σ w.H _ us Q I r ⟨p,ys,rfl,.inl (SqL.of ep),?_⟩;rw[rs.length];exact q _ w (Grow.refl _) (.int _)
 ·rename_i l;cases a
  cases b with
  |cons h1 h2=>
   cases h2;obtain⟨p,ys,rfl,ep,_,rs⟩:=h1.tupI;refine zcP pins s σ w.H _ us Q I r ⟨p,ys,rfl,.inr (SqT.of ep),?_⟩;rw[rs.length];exact q _ w (Grow.refl _) (.int _)
 ·rename_i l;cases a
  cases b with
  |cons h1 h2=>
   cases h2;obtain⟨p,rfl,ep⟩:=h1.scrI J;refine zcP pins s σ w.H _ us Q I r ⟨p,l.map V.int,rfl,.inl ep,?_⟩;rw[yaf];exact q _ w (Grow.refl _) (.int _)
 ·rename_i x;split at a
  ·rename_i c;cases a
   cases b with
   |cons h1 h2=>
    cases h2;obtain rfl:=h1.strI;exact ziQ pins s σ w.H _ us Q I r ⟨x,rfl,zbm c,q _ w (Grow.refl _) (.int _)⟩
  ·cases a
 ·cases a
noncomputable def zbH:List D->Option D
 |[.lst l]=>some (.tup l)|[.tup l]=>some (.tup l)|_=>none
def zo4:zlk X cl (.type "tuple") zbH:=by
 intro pins s σ H xs us Q I r h;obtain⟨w,ds,d,rfl,b,a,q⟩:=h;unfold zbH at a;split at a
 ·rename_i l;cases a
  cases b with
  |cons h1 h2=>
   cases h2;obtain⟨p,ys,rfl,ep,rs⟩:=h1.lstI;exact zdw pins s σ w.H _ us Q I r ⟨p,ys,rfl,.inl ⟨SqL.of ep,fun l c=>q _ (w.add l _) (zaC c _) (Shd.newT c rs)⟩⟩
 ·rename_i l;cases a
  cases b with
  |cons h1 h2=>
   cases h2;obtain⟨p,ys,rfl,ep,kp,rs⟩:=h1.tupI;exact zdw pins s σ w.H _ us Q I r ⟨p,ys,rfl,.inr ⟨SqT.of ep,q _ w (Grow.refl _) (.tup ep kp rs)⟩⟩
 ·cases a
noncomputable def zmO:List D->Option D
 |[.lst l]=>some (.lst l)|[.tup l]=>some (.lst l)|_=>none
def zrO:zrZ X cl (.type "list") zmO:=by
 intro pins s σ H xs us Q I r h;obtain⟨w,ds,d,rfl,c,a,q⟩:=h;unfold zmO at a;split at a
 ·rename_i l;cases a
  cases c with
  |cons h1 h2=>
   cases h2;obtain⟨p,ys,rfl,ep,rs⟩:=h1.lstI;exact zfy pins s σ w.H _ us Q I r ⟨p,ys,rfl,.inl (SqL.of ep),fun l b=>q _ _ w (Grow.refl _) b (.lst rs)⟩
 ·rename_i l;cases a
  cases c with
  |cons h1 h2=>
   cases h2;obtain⟨p,ys,rfl,ep,_,rs⟩:=h1.tupI;exact zfy pins s σ w.H _ us Q I r ⟨p,ys,rfl,.inr (SqT.of ep),fun l b=>q _ _ w (Grow.refl _) b (.lst rs)⟩
 ·cases a
noncomputable def zhT:List D->Option (List Bool)
 |[]=>some []|.bl b::l=>(zhT l).map (b::·)|_=>none
def zo9:∀{xs:List V},Shds cl w xs ds->zhT ds=some bs->xs=bs.map V.bl:=by
 induction ds generalizing bs with
 |nil=>intro xs r h;cases r;cases h;rfl|cons d ds c=>
  intro xs r e
  cases r with
  |cons h t=>
   cases d with
   |bl b=>
    cases h;unfold zhT at e
    cases a:zhT ds with
    |none=>rw[a]at e;cases e|some cs=>rw[a]at e;cases e;rw[c t a];rfl
   |_=>cases e
def zsa:List D->Option D
 |[.lst l]=>(zhT l).map fun bs=>.bl (bs.all id)|_=>none
def zuH(J:X.calm=true):zlk X cl (.builtin "all") zsa:=by
 intro pins s σ H xs us Q I r h;obtain⟨w,ds,d,rfl,c,a,q⟩:=h;unfold zsa at a;split at a
 ·rename_i l
  cases b:zhT l with
  |none=>rw[b]at a;cases a|some bs=>
   rw[b]at a;cases a
   cases c with
   |cons h1 h2=>
    cases h2;obtain⟨p,ys,rfl,ep,rs⟩:=h1.lstI;obtain rfl:=zo9 rs b;exact zjy J pins s σ w.H _ us Q I r ⟨p,bs,rfl,SqL.of ep,q _ w (Grow.refl _) (.bl _)⟩
 ·cases a
noncomputable def zeT:List D->Option (List Int)
 |[]=>some []|.int b::l=>(zeT l).map (b::·)|_=>none
def zm0:∀{xs:List V},Shds cl w xs ds->zeT ds=some bs->xs=bs.map V.int:=by
 induction ds generalizing bs with
 |nil=>intro xs r h;cases r;cases h;rfl|cons d ds c=>
  intro xs r e
  cases r with
  |cons h t=>
   cases d with
   |int b=>
    cases h;unfold zeT at e
    cases a:zeT ds with
    |none=>rw[a]at e;cases e|some cs=>rw[a]at e;cases e;rw[c t a];rfl
   |_=>cases e
def zsx:List D->Option D
 |[.lst l]=>(zeT l).bind fun ns=>if decide (ns.length<=1000)&&ns.all (fun n=>decide (0<=n/\n<=1000000))then some (.int ns.sum)else none
 |_=>none
def zuF(J:X.calm=true):zlk X cl (.builtin "sum") zsx:=by
 intro pins s σ H xs us Q I r h;obtain⟨w,ds,d,rfl,e,a,q⟩:=h;unfold zsx at a;split at a
 ·rename_i l
  cases c:zeT l with
  |none=>rw[c]at a;cases a|some ns=>
   rw[c]at a;dsimp only[Option.bind]at a;split at a
   ·rename_i b;cases a;rw[yab,ybG]at b
    cases e with
    |cons h1 h2=>
     cases h2;obtain⟨p,ys,rfl,ep,rs⟩:=h1.lstI;obtain rfl:=zm0 rs c;exact zo5 J pins s σ w.H _ us Q I r ⟨p,ns,rfl,SqL.of ep,yai b.1,fun n f=>yai (b.2 n f),q _ w (Grow.refl _) (.int _)⟩
   ·cases a
 ·cases a
end
end S2
namespace L2
open PySem PySem.Spec PyProof.Rows
end L2
namespace S2
open PySem PySem.Spec PyProof.Rows L2
def zc9(g g':D->D->Option D)(f h k:Fe):Fe:=fun ρ S=>(f ρ S).bind fun a S1=>(h ρ S1).bind fun b S2=>match(g a b).bind isB with
 |some true=>(k ρ S2).bind fun c d=>Out.of (g' b c) d|some false=>.ok (.bl false) S2|none=>.bad
section
variable{X:Cx}{cl:Cf}{E:St->XK}{a b c e:Expr}{f h k:Fe}{pos:Pos}
def zjK(J:∀x y H Q,(∃w d e r,w.H=H/\TopV cl w x d/\TopV cl w y e/\g d e=some r/\∀v w',Grow w w'->Shd cl w' v r->Q v w'.H)->r x y H Q)
  (I:∀x y H Q,(∃w d e r,w.H=H/\TopV cl w x d/\TopV cl w y e/\g' d e=some r/\∀v w',Grow w w'->Shd cl w' v r->Q v w'.H)->r' x y H Q) (q:tE cl E (zc9 g g' f h k) σ H Q):zlI r r' (tH cl E f) (tH cl E h) (tH cl E k) σ H Q:=by
 obtain⟨B,w,ρ,S,rfl,R,q⟩:=q;refine⟨B,w,ρ,S,rfl,R,?_⟩;unfold zc9 at q
 cases hf:f ρ S with
 |bad=>rwa[hf]at q|exc c S1=>rwa[hf]at q|ok d S1=>
  rw[hf]at q;intro v D K F1 h1;refine⟨B,D,ρ,S1,rfl,K,?_⟩;dsimp only[Out.bind]at q
  cases p:h ρ S1 with
  |bad=>rwa[p]at q|exc c S2=>rw[p]at q;exact fun m R2 F2=>q m R2 (F1.trans F2)|ok e S2=>
   rw[p]at q;intro y m R2 F2 h2;dsimp only at q
   cases j:g d e with
   |none=>rw[j]at q;exact q.elim|some z=>
    rw[j]at q;dsimp only[Option.bind]at q
    cases s:isB z with
    |none=>rw[s]at q;exact q.elim|some bb=>
     rw[s]at q;rw[zd8 s]at j;refine J _ _ _ _ ⟨m,d,e,_,rfl,(h1.up F2).top R2,h2.top R2,j,fun u t gr sh=>⟨bb,zib sh,?_⟩⟩;have A:=R2.grow gr
     cases bb with
     |false=>exact zhE (q _ t A (F1.trans (F2.trans gr.fut)) (.bl _))|true=>
      refine zkh ⟨B,t,ρ,S2,rfl,A,?_⟩;dsimp only at q
      cases o:k ρ S2 with
      |bad=>rwa[o]at q|exc c G=>rw[o]at q;exact fun l i F4=>q l i (F1.trans (F2.trans (gr.fut.trans F4)))|ok c G=>
       rw[o]at q;intro L l i F4 h4;dsimp only at q
       cases a:g' e c with
       |none=>rw[a]at q;exact q.elim|some F=>
        rw[a]at q;exact I _ _ _ _ ⟨l,e,c,F,rfl,(h2.up (gr.fut.trans F4)).top i,h4.top i,a,fun u C b n=>q u C (i.grow b) (F1.trans (F2.trans (gr.fut.trans (F4.trans b.fut)))) n⟩
def znZ(ho:OpD X cl (compareOp op) g)(J:OpD X cl (compareOp I) g')(ha:PE X a (tH cl E f))(hb:PE X b (tH cl E h))(U:PE X c (tH cl E k))(hm:lastMarks [op,I] [b,c]=false):PE X (.Compare a [op,I] [b,c] pos) (tE cl E (zc9 g g' f h k)):=
 PE.imp (zos ho J ha hb U hm) fun _ _ _ q=>zjK (fun _ _ _ _ z=>z) (fun _ _ _ _ z=>z) q
def znN(ho:OpD X cl (compareOp op) g)(J:OpD X cl (compareOp I) g')(ha:PE X a (tH cl E f))(hb:PE X b (tH cl E h))(U:PE X c (tH cl E k))(hm:lastMarks [op,I] [b,c]=false):PT X (.Compare a [op,I] [b,c] pos) (tTr cl E (zc9 g g' f h k)):=
 PT.imp (zoc ho J ha hb U hm) fun _ _ _ q=>zjK (fun _ _ _ _ z=>z) (fun _ _ _ _ z=>z) (zh6 q)
def zej{α:Type}(l:List α)(lo hi:Option Int):List α:=(l.drop (HT.sIx l.length 0 lo)).take (HT.sIx l.length l.length hi-HT.sIx l.length 0 lo)
def slD(d:D)(lo hi:Option Int):Option D:=match d with
 |.lst l=>some (.lst (zej l lo hi))|.tup l=>some (.tup (zej l lo hi))|_=>none
def zdG(o:Option Fe)(ρ:Env)(S:Sto):Out (Option Int):=match o with
 |none=>.ok none S|some f=>(f ρ S).bind fun d S1=>match d with|.int i=>.ok (some i) S1|_=>.bad
def eSl(f:Fe)(lo hi:Option Fe):Fe:=fun ρ S=>(f ρ S).bind fun d S1=>(zdG lo ρ S1).bind fun l S2=>(zdG hi ρ S2).bind fun u a=>Out.of (slD d l u) a
def ziN(r:Shds cl w xs ds)(lo hi:Option Int):Shds cl w (zpW xs lo hi) (zej ds lo hi):=by
 unfold zpW zej;rw[r.length];exact(r.drop _).take _
noncomputable def SlD(X:Cx)(cl:Cf):Prop:=SlR X fun x lo hi H Q=>∃w d r,w.H=H/\TopV cl w x d/\slD d lo hi=some r/\∀v w',Grow w w'->Shd cl w' v r->Q v w'.H
def zvH:SlD X cl:=by
 intro pins s σ H x v e c lo hi f Q I g hs pl pu h;obtain⟨w,d,r,rfl,j,b,q⟩:=h;unfold slD at b;split at b
 ·rename_i l;cases b;obtain⟨p,xs,rfl,ep,rs⟩:=j.lstI;exact zqs pins s σ w.H _ v e c lo hi f Q I g hs pl pu ⟨p,xs,rfl,SqL.of ep,fun i a=>q _ (w.add i _) (zaC a _) (Shd.newL a (ziN rs lo hi))⟩
 ·rename_i l;cases b;obtain⟨p,xs,rfl,ep,kp,rs⟩:=j.tupI
  by_cases hw:HT.sIx xs.length 0 lo=0/\HT.sIx xs.length xs.length hi=xs.length
  ·refine zkK pins s σ w.H _ v e c lo hi f Q I g hs pl pu ⟨p,xs,rfl,SqT.of ep,hw.1,hw.2,q _ w (Grow.refl _) (.tup ep kp ?_)⟩
   have:zej l lo hi=l:=by
    unfold zej;rw[<-rs.length,hw.1,hw.2,List.drop_zero,Nat.sub_zero,yb7 (by rw[rs.length];exact yag _)]
   rw[this];exact rs
  ·exact zsO pins s σ w.H _ v e c lo hi f Q I g hs pl pu ⟨p,xs,rfl,SqT.of ep,hw,fun i a=>q _ (w.add i _) (zaC a _) (Shd.newT a (ziN rs lo hi))⟩
 ·cases b
noncomputable def zu1(cl:Cf)(E:St->XK)(o:Option Fe):TO:=match o with|none=>zlG|some f=>zsn (tH cl E f)
def zvD{lo hi:Option Expr}{J I:Option Fe}{p2:Pos}(he:PE X e (tH cl E f))(hl:PO X lo (zu1 cl E J))(U:PO X hi (zu1 cl E I)):PE X (.Subscript e (.Slice lo hi none p2) pos) (tE cl E (eSl f J I)):=by
 refine PE.imp (zon (zvH (cl:=cl)) he hl U) ?_;rintro σ H Q ⟨B,w,ρ,S,rfl,R,q⟩;refine⟨B,w,ρ,S,rfl,R,?_⟩;unfold eSl at q
 cases hf:f ρ S with
 |bad=>rwa[hf]at q|exc c S1=>rwa[hf]at q|ok d S1=>
  rw[hf]at q;intro v m p F1 h1;dsimp only[Out.bind]at q
  have last:∀(l u:Option Int) (a:Wd) (g:Sto),Rel cl B σ a ρ g->Fut m a->(match Out.of (slD d l u) g with
    |.ok d S'=>∀v w',Rel cl B σ w' ρ S'->Fut w w'->Shd cl w' v d->Q v w'.H|.exc c S'=>∀w',Rel cl B σ w' ρ S'->Fut w w'->E σ (.ref (cl c)) none w'.H|.bad=>False)->∃w d r,w.H=a.H/\TopV cl w v d/\slD d l u=some r/\∀v w',Grow w w'->Shd cl w' v r->Q v w'.H:=by
   intro l u a g h F3 n
   cases o:slD d l u with
   |none=>rw[o]at n;exact n.elim|some r=>
    rw[o]at n;exact⟨a,d,r,rfl,(h1.up F3).top h,o,fun s w' gr sh=>n s w' (h.grow gr) (F1.trans (F3.trans gr.fut)) sh⟩
  have second:∀(l:Option Int) (j:Wd) (S2:Sto),Rel cl B σ j ρ S2->Fut m j->(match(zdG I ρ S2).bind fun u g=>Out.of (slD d l u) g with
    |.ok d S'=>∀v w',Rel cl B σ w' ρ S'->Fut w w'->Shd cl w' v d->Q v w'.H|.exc c S'=>∀w',Rel cl B σ w' ρ S'->Fut w w'->E σ (.ref (cl c)) none w'.H|.bad=>False)->zu1 cl E I σ j.H fun u z=>∃w d r,w.H=z/\TopV cl w v d/\slD d l u=some r/\∀v w',Grow w w'->Shd cl w' v r->Q v w'.H:=by
   intro l j S2 R2 F2 b
   cases I with
   |none=>exact last l none j S2 R2 F2 b|some I=>
    refine⟨B,j,ρ,S2,rfl,R2,?_⟩;unfold zdG at b;dsimp only at b
    cases k:I ρ S2 with
    |bad=>rwa[k]at b|exc c g=>rw[k]at b;exact fun a h F3=>b a h (F1.trans (F2.trans F3))|ok x g=>
     rw[k]at b;intro y a h F3 t;dsimp only[Out.bind]at b
     cases x with
     |int i=>
      refine⟨i,(t.top h).intI,?_⟩;exact last l (some i) a g h (F2.trans F3) b
     |_=>exact b.elim
  cases J with
  |none=>exact second none m S1 p (Fut.refl _) q|some J=>
   refine⟨B,m,ρ,S1,rfl,p,?_⟩;unfold zdG at q;dsimp only at q
   cases k:J ρ S1 with
   |bad=>rwa[k]at q|exc c g=>rw[k]at q;exact fun a h F3=>q a h (F1.trans F3)|ok dl S2=>
    rw[k]at q;intro y j R2 F2 h2;dsimp only[Out.bind]at q
    cases dl with
    |int i=>
     refine⟨i,(h2.top R2).intI,?_⟩;exact second (some i) j S2 R2 F2 q
    |_=>exact q.elim
noncomputable def zgj(T:String)(d:D):Option D:=
 if T="int"then(match d with|.int _=>some (.bl true)|.bl _=>some (.bl true)|.non=>some (.bl false)|.str _=>some (.bl false)|.tup _=>some (.bl false)|.lst _=>some (.bl false)|_=>none)
 else if T="bool"then(match d with|.int _=>some (.bl false)|.bl _=>some (.bl true)|.non=>some (.bl false)|.str _=>some (.bl false)|.tup _=>some (.bl false)|.lst _=>some (.bl false)|_=>none)
 else if T="tuple"then(match d with|.int _=>some (.bl false)|.bl _=>some (.bl false)|.non=>some (.bl false)|.str _=>some (.bl false)|.tup _=>some (.bl true)|.lst _=>some (.bl false)|_=>none)
 else if T="str"then(match d with|.int _=>some (.bl false)|.bl _=>some (.bl false)|.non=>some (.bl false)|.str _=>some (.bl true)|.tup _=>some (.bl false)|.lst _=>some (.bl false)|_=>none)
 else none
def zd9{K:PySem.W.Frag}{t:Value}{r:D}{T:String}{b1 b2 U J:Bool}(I:(if T="int"then some (D.bl b1)else if T="bool"then some (.bl b2)else if T="tuple"then some (.bl U)else if T="str"then some (.bl J)else none)=some r)(k1:PySem.W.kitOne K t (.type "int")=some b1)(k2:PySem.W.kitOne K t (.type "bool")=some b2)(k3:PySem.W.kitOne K t (.type "tuple")=some U)(k4:PySem.W.kitOne K t (.type "str")=some J):∃b,PySem.W.kitOne K t (.type T)=some b/\r=.bl b:=by
 split at I
 ·rename_i e;cases I;exact⟨b1,by rw[e];exact k1,rfl⟩
 split at I
 ·rename_i e;cases I;exact⟨b2,by rw[e];exact k2,rfl⟩
 split at I
 ·rename_i e;cases I;exact⟨U,by rw[e];exact k3,rfl⟩
 split at I
 ·rename_i e;cases I;exact⟨J,by rw[e];exact k4,rfl⟩
 ·cases I
def zry{r:D}{T:String}(I:(if T="int"then none else if T="bool"then none else if T="tuple"then none else if T="str"then none else none)=some r):False:=by
 simp at I
def zrx{K:PySem.W.Frag}{w:Wd}(h:TopV cl w v d)(I:zgj T d=some r):∃t b,TyOf K w.H v t/\PySem.W.kitOne K t (.type T)=some b/\r=.bl b:=by
 cases d with
 |int i=>obtain rfl:=h.intI;obtain⟨b,h1,h2⟩:=zd9 (K:=K) (t:=.type "int") I (by with_unfolding_all rfl) (by with_unfolding_all rfl) (by with_unfolding_all rfl) (by with_unfolding_all rfl);exact⟨_,b,.int _,h1,h2⟩
 |bl i=>obtain rfl:=h.blI;obtain⟨b,h1,h2⟩:=zd9 (K:=K) (t:=.type "bool") I (by with_unfolding_all rfl) (by with_unfolding_all rfl) (by with_unfolding_all rfl) (by with_unfolding_all rfl);exact⟨_,b,.bl _,h1,h2⟩
 |non=>obtain rfl:=h.nonI;obtain⟨b,h1,h2⟩:=zd9 (K:=K) (t:=.type "NoneType") I (by with_unfolding_all rfl) (by with_unfolding_all rfl) (by with_unfolding_all rfl) (by with_unfolding_all rfl);exact⟨_,b,.non,h1,h2⟩
 |str i=>obtain rfl:=h.strI;obtain⟨b,h1,h2⟩:=zd9 (K:=K) (t:=.type "str") I (by with_unfolding_all rfl) (by with_unfolding_all rfl) (by with_unfolding_all rfl) (by with_unfolding_all rfl);exact⟨_,b,.str _,h1,h2⟩
 |tup i=>obtain⟨_,_,rfl,e,_⟩:=h.tupI;obtain⟨b,h1,h2⟩:=zd9 (K:=K) (t:=.type "tuple") I (by with_unfolding_all rfl) (by with_unfolding_all rfl) (by with_unfolding_all rfl) (by with_unfolding_all rfl);exact⟨_,b,.tup e,h1,h2⟩
 |lst i=>obtain⟨_,_,rfl,e,_⟩:=h.lstI;obtain⟨b,h1,h2⟩:=zd9 (K:=K) (t:=.type "list") I (by with_unfolding_all rfl) (by with_unfolding_all rfl) (by with_unfolding_all rfl) (by with_unfolding_all rfl);exact⟨_,b,.lst e,h1,h2⟩
 |_=>exact(zry I).elim
theorem zcc:bootBuiltins "isinstance"=some (.builtin "isinstance"):=by decide +kernel
def zqD(I:Gl X "isinstance")(hm:X.mg "isinstance"=none)(a3:Gl X x)(U:X.mg x=none)(J:bootBuiltins x=some (.type T))(hn:x ≠ "__name__")(a4:(x==("__debug__":Str))=false)(hp:zcb e=true)(he:PE X e (tH cl E f)):
  PE X (.Call (.Name "isinstance" p) [e,.Name x p2] [] pos) (tE cl E (eUn (zgj T) f)):=by
 refine PE.imp (zbA zb3 I hm zcc (zam he (zam (zdP (v:=.ty T) a3 U J rfl hn a4) zaQ rfl) (zbI hp)) (he:=zbI hp) (ah:=rfl)) ?_;rintro σ H Q ⟨B,w,ρ,S,rfl,R,q⟩;refine⟨B,w,ρ,S,rfl,R,?_⟩;unfold eUn at q
 cases hf:f ρ S with
 |bad=>rwa[hf]at q|exc c S1=>rwa[hf]at q|ok d S1=>
  rw[hf]at q;intro v g a F1 h1;dsimp only[Out.bind]at q
  cases I:zgj T d with
  |none=>rw[I]at q;exact q.elim|some r=>
   rw[I]at q;obtain⟨t,b,h2,h,rfl⟩:=zrx (K:=X.K) (h1.top a) I;exact⟨v,t,T,b,rfl,h2,h,q _ g a F1 (.bl _)⟩
def zju(f:Fe):Fi:=fun ρ S=>(f ρ S).bind fun d S1=>match d with|.scr l=>.ok (l.map D.int) S1|_=>.bad
def zsR(I:X.K=cl.K)(he:PE X e (tE cl E f)):PI X tg e (tI cl E (zju f)):=by
 refine PI.imp (zhv he) ?_;rintro σ H Q ⟨B,w,ρ,S,rfl,R,q⟩;refine⟨B,w,ρ,S,rfl,R,?_⟩;unfold zju at q
 cases hf:f ρ S with
 |bad=>rwa[hf]at q|exc c S1=>rwa[hf]at q|ok d S1=>
  rw[hf]at q;intro v w' n o h';dsimp only[Out.bind]at q
  cases d with
  |scr l=>
   obtain⟨a,rfl,_⟩:=h'.scrI I
   have h:∀b,Fut w' b->SqL X.K b.H a (l.map V.int):=fun b F1=>by
    obtain⟨p,e,m⟩:=(h'.up F1).scrI I;cases e;exact m
   refine⟨a,rfl,⟨_,h _ (Fut.refl _)⟩,q _ w' n o ?_⟩;refine⟨fun b F1 i hi=>⟨_,(l.map V.int)[i]'(by simpa using hi),h _ F1,yad (by simpa using hi)⟩,fun b F1=>⟨_,h _ F1,by simp⟩,fun b F1 i d x H1 hd y=>?_⟩;obtain⟨rfl,k⟩:=y;have g:=k _ (h _ F1);rw[yaw]at g hd
   cases j:l[i]? with
   |none=>rw[j]at g;cases g|some z=>
    rw[j]at g hd;cases g;cases hd;exact⟨b,rfl,Grow.refl _,.int _⟩
  |_=>exact q.elim
def zbe(f:Fe):Fi:=fun ρ S=>(f ρ S).bind fun d S1=>match d with|.lst l=>.ok l S1|.tup l=>.ok l S1|.scr l=>.ok (l.map D.int) S1|_=>.bad
def zsS(J:X.K=cl.K)(he:PE X e (tE cl E f)):PI X tg e (tI cl E (zbe f)):=by
 intro pins s σ H a I q;obtain⟨B,w,ρ,S,rfl,R,q⟩:=q;unfold zbe at q
 cases hf:f ρ S with
 |bad=>rw[hf]at q;exact q.elim|exc c S1=>
  refine zlP he pins s σ w.H a I ⟨B,w,ρ,S,rfl,R,?_⟩;unfold zkt;rw[hf]at q ⊢;exact q
 |ok d S1=>
  rw[hf]at q;dsimp only[Out.bind]at q
  cases d with
  |lst l=>
   refine zlP he pins s σ w.H a I ⟨B,w,ρ,S,rfl,R,?_⟩;unfold zkt;rw[hf];exact q
  |tup l=>
   refine zsQ he pins s σ w.H a I ⟨B,w,ρ,S,rfl,R,?_⟩;unfold zjt;rw[hf];exact q
  |scr l=>
   refine zsR J he pins s σ w.H a I ⟨B,w,ρ,S,rfl,R,?_⟩;unfold zju;rw[hf];exact q
  |_=>exact q.elim
end
end S2
namespace L2
open PySem PySem.Spec PyProof.Rows
noncomputable def zgP(b:Bool)(h:Heap)(a:Addr)(vs:Array Value):Prop:=match b with|true=>h.IsList a vs|false=>h.IsTuple a vs
noncomputable def zjD(b:Bool)(h:Heap)(it a:Addr)(j:Nat):Prop:=match b with|true=>h.IsListIter it a j|false=>h.IsTupleIter it a j
noncomputable def itN(b:Bool):String:=match b with|true=>"list_iterator"|false=>"tuple_iterator"
def zgP.keep(p:zgP b h a vs)(k:∀o,h.get? a=some o->h'.get? a=some o):zgP b h' a vs:=by
 cases b with
 |true=>exact Heap.IsList.at p k|false=>obtain⟨o,c,r⟩:=p;exact⟨o,k o c,r⟩
def zjD.keep(p:zjD b h it a j)(k:∀o,h.get? it=some o->h'.get? it=some o):zjD b h' it a j:=by
 cases b with
 |true=>exact Heap.IsListIter.at p k|false=>exact Heap.IsTupleIter.at p k
def zjD.live(p:zjD b h it a j):∃o,h.get? it=some o/\∀v,o.data≠.cell v:=by
 cases b with
 |true=>obtain⟨o,e,c,d⟩:=p;exact⟨o,e,fun v z=>by rw[d]at z;cases z⟩
 |false=>obtain⟨o,e,c,d⟩:=p;exact⟨o,e,fun v z=>by rw[d]at z;cases z⟩
section
variable{prog:Program}{w:World}{A:Around}{E:Z5}{s:Shared}
def zo0(I:A.handled=none)(b:Bool)(it t:Addr)(ne:t≠it)(vs:Array Value):Draws prog w A it [it,t] vs.size (fun j v=>vs[j]?=some v) (fun j h=>zjD b h it t j/\zgP b h t vs):=by
 cases b with
 |false=>exact ziM I it t ne vs|true=>
  exact {
   live:=fun _ _ st=>by obtain⟨⟨o,g,_⟩,_⟩:=st;exact⟨o,g⟩
   frame:=fun _ _ _ st d=>⟨st.1.keep fun o e=>d it (by simp) o e,st.2.keep fun o e=>d t (by simp) o e⟩
   item:=fun j s Q E f st i=>wpAny_nextOf_list_item (x:=vs[j]) st.1 st.2 (by simp[f]) fun h' c a=>i _ h' s.toks (by simp[f]) ⟨c,st.2.keep fun o e=>(a.2 t ne).trans e⟩ a
   done:=fun s Q E st k=>wpAny_nextOf_list_end I st.1 st.2 (by simp) fun h' e a he=>k h' e a he}
def ziq{b:Bool}{l:Addr}{vs:Array Value}{Q:Z5}(p:zgP b s.heap l vs)(h:Q (.ref s.heap.objs.size) {s with heap:=s.heap.push {cls:=.type (itN b),data:=.fields #[.ref l,.int 0 0]}}):wpAny (model prog w) A (pyIter (.ref l)) Q E s:=by
 cases b with
 |true=>exact ycN p h|false=>exact ycx p h
def zpN{b:Bool}{h:Heap}{it a:Addr}(g:h.get? it=some {cls:=.type (itN b),data:=.fields #[.ref a,.int 0 0]}):zjD b h it a 0:=by
 cases b with
 |true=>exact⟨_,g,rfl,rfl⟩|false=>exact⟨_,g,rfl,rfl⟩
def zgP.lt{b:Bool}{h:Heap}{a:Addr}{vs:Array Value}(p:zgP b h a vs):a<h.objs.size:=by
 cases b with
 |true=>obtain⟨o,c,_⟩:=p;exact yao c|false=>obtain⟨o,c,_⟩:=p;exact yao c
end
noncomputable abbrev IsT(h:Heap)(T:Addr)(os:List Value):Prop:=h.get? T=some {cls:=.type "tuple",data:=.seq os.toArray}
noncomputable abbrev Stops(h:Heap)(e:Addr):Prop:=∃o,h.get? e=some o/\o.cls=.type "StopIteration"
structure ZSt(q:Bool)(a l m i:Nat)(f:Value)(h:Heap):Prop where
 z:IsZip h (a+4) (a+2) (a+3) f
 ti:IsT h (a+2) [.ref a,.ref (a+1)]
 to:∃x y,IsT h (a+3) [x,y]
 i1:zjD q h a l i
 i2:zjD q h (a+1) m i
section
variable{prog:Program}{w:World}{A:Around}{E:Z5}{s:Shared}{q:Bool}{a l m k:Nat}{us vs:Array Value}
theorem zp3{β:Type}{f:Value×Nat->β->Sem (ForInStep β)}{b:β}{Q:β->Shared->Prop}{x0 y0:Value}
  (hf:∀(c l n:Nat) (vs:Array Value) (os:List Value) (s:Shared) (Q:ForInStep β->Shared->Prop),l<c->c<a+3->os.length=2->IsZip s.heap (a+4) (a+2) (a+3) .ellipsis->IsT s.heap (a+3) os->zjD q s.heap c l k->zgP q s.heap l vs->k<=vs.size →
   (∀x h' tk,vs[k]?=some x->IsT h' (a+3) (os.set n x)->zjD q h' c l (k+1)->h'.objs.size=s.heap.objs.size->(∀(d:Nat) (o:Obj),d≠a+3->d≠c->s.heap.get? d=some o->h'.get? d=some o)->Q (.yield b) {s with heap:=h',toks:=tk}) →
   (k=vs.size->∀h' e tk,(∀(d:Nat) (o:Obj),d≠a+4->d≠c->s.heap.get? d=some o->h'.get? d=some o)->Stops h' e->E (.ref e) {s with heap:=h',toks:=tk})->wpAny (model prog w) A (f (.ref c,n) b) Q E s)
  (hl:l<a) (hm:m<a) (J:IsZip s.heap (a+4) (a+2) (a+3) .ellipsis) (hO:IsT s.heap (a+3) [x0,y0]) (h1:zjD q s.heap a l k) (h2:zjD q s.heap (a+1) m k) (hu:zgP q s.heap l us) (hv:zgP q s.heap m vs) (hk:k<=us.size) (I:k<=vs.size)
  (hQ:∀x y h' tk,us[k]?=some x->vs[k]?=some y->IsT h' (a+3) [x,y]->zjD q h' a l (k+1)->zjD q h' (a+1) m (k+1)->h'.objs.size=s.heap.objs.size->(∀(d:Nat) (o:Obj),d≠a->d≠a+1->d≠a+3->s.heap.get? d=some o->h'.get? d=some o)->Q b {s with heap:=h',toks:=tk})
  (U:(k=us.size\/k=vs.size)->∀h' e tk,(∀(d:Nat) (o:Obj),(d<a\/a+4<d)->s.heap.get? d=some o->h'.get? d=some o)->Stops h' e->E (.ref e) {s with heap:=h',toks:=tk}):
  wpAny (model prog w) A (forIn [((.ref a:Value),0),(.ref (a+1),1)] b f) Q E s:=by
 rw[ycB];refine yaa (hf a l 0 us _ s _ hl (by omega) rfl J hO h1 hu hk (fun x g tk D u z r k1=>?_) (fun e h' B tk k1=>U (.inl e) h' B tk fun d o p q=>k1 d o (by omega) (by omega) q));show wpAny _ _ (forIn [((.ref (a+1):Value),1)] b f) _ _ _;rw[ycB];refine yaa (hf (a+1) m 1 vs _ _ _ (by omega) (by omega) rfl (k1 _ _ (by omega) (by omega) J) u (h2.keep fun o e=>k1 _ o (by omega) (by omega) e) (zgP.keep hv fun o e=>k1 _ o (by omega) (by omega) e) I (fun y g2 h C t v j k2=>?_) (fun e h' B i k2=>U (.inr e) h' B i fun d o p q=>k2 d o (by omega) (by omega) (k1 d o (by omega) (by omega) q)));exact yae (hQ x y g2 h D C t (z.keep fun o e=>k2 _ o (by omega) (by omega) e) v (j.trans r) fun d o p1 p2 p3 e=>k2 d o p3 p2 (k1 d o p3 p1 e))
theorem zjF{Q:Z5}(hh:A.handled=none)(Z:ZSt q a l m k .none s.heap)(hl:l<a)(hm:m<a)(hu:zgP q s.heap l us)(U:zgP q s.heap m vs)(hk:k<=us.size)(a3:k<=vs.size)
  (hQ:∀x y h' tk,us[k]?=some x->vs[k]?=some y->ZSt q a l m (k+1) (rawInt s.heap.objs.size) h'->IsT h' s.heap.objs.size [x,y]->(∀(c:Nat) (o:Obj),(c<a\/a+4<c)->s.heap.get? c=some o->h'.get? c=some o)->Q (.ref s.heap.objs.size) {s with heap:=h',toks:=tk})
  (hE:(k=us.size\/k=vs.size)->∀h' e tk,(∀(c:Nat) (o:Obj),(c<a\/a+4<c)->s.heap.get? c=some o->h'.get? c=some o)->Stops h' e->E (.ref e) {s with heap:=h',toks:=tk}):
  wpAny (model prog w) A (Builtin.«zip.__next__» ⟨[.ref (a+4)],[]⟩) (fun fin s'=>∃v,fin=.done (.ret v)/\Q v s') E s:=by
 obtain⟨G,N,⟨x0,y0,S⟩,h1,h2⟩:=Z;show wpAny _ _ (field (.ref (a+4)) 2 >>= _) _ _ _;refine yaa (ybB G rfl (x:=.bool false) rfl ?_);show wpAny _ _ (field (.ref (a+4)) 3 >>= _) _ _ _;refine yaa (ybB G rfl (x:=.ref (a+2)) rfl ?_);refine yaa (yb6 N rfl ?_);show wpAny _ _ (Builtin.SmallTypes.ownedTupleIsFree (.ref (a+4)) >>= _) _ _ _;refine yaa ?_;unfold Builtin.SmallTypes.ownedTupleIsFree;refine yaa (ybB G rfl (x:=.none) rfl (yae ?_));simp only[ycX];refine yaa (ydi ?_);refine yaa (ybB G rfl (x:=.ref (a+3)) rfl ?_);refine yaa (ycF G (by simp) fun g r C=>?_);replace r:IsZip g (a+4) (a+2) (a+3) .ellipsis:=r;have k₁:∀(c:Nat) (o:Obj),c≠a+4->s.heap.get? c=some o->g.get? c=some o:=fun c o J e=>C.extBut _ _ J e
 refine yaa (zp3 (a:=a) (l:=l) (m:=m) (k:=k) (us:=us) (vs:=vs) (fun c l n vs os s Q J V ho G S N U hk O he=>?_) hl hm r (k₁ _ _ (by omega) S) (h1.keep fun o e=>k₁ _ o (by omega) e) (h2.keep fun o e=>k₁ _ o (by omega) e) (zgP.keep hu fun o e=>k₁ _ o (by omega) e) (zgP.keep U fun o e=>k₁ _ o (by omega) e) hk a3 (fun x y b tk O hy i i1 i2 f k₂=>?_) (fun e h' e' tk k'=>hE e h' e' tk fun c o J q=>k' c o J (k₁ c o (by omega) q)))
 ·have D:=zo0 (prog:=prog) (w:=w) hh q c l (yaz J) vs;refine yaa (wpAny_onRaise ?_);show wpAny _ _ (Builtin.SmallTypes.nextOf (.ref c) >>= _) _ _ _
  rcases Nat.lt_or_eq_of_le hk with P|rfl
  ·refine yaa (D.item k _ _ _ P ⟨N,U⟩ fun x b F px I f=>yae ?_);have i:IsT b (a+3) os:=f.extBut _ _ (yaQ V) S;refine yaa (yb6 i rfl ?_)
   have X:os.length<=9:=by omega
   refine yaa (wpAny_updateSeq i rfl ?_ (by simp;exact yak X (by decide)) (by simp;exact yak X (by decide)));have h:=Heap.SameBut.update b (a+3) (Obj.mapSeq (·.setIfInBounds n x));refine yaa (wpAny_letGo (yae (O x _ F px ?_ (I.1.keep fun o e=>h.extBut _ _ (yaz V) e) (h.1.trans f.1) fun d o c1 T e=>h.extBut _ _ c1 (f.extBut _ _ T e))));show Heap.get? _ (a+3)=_;rw[ycc _ i rfl];simp[Obj.mapSeq]
  ·refine yaa (D.done _ _ _ ⟨N,U⟩ fun b e f hs=>?_);obtain⟨Y,H,M⟩:=hs;have j:=f _ _ (show a+4≠c by omega) G
   have R:e≠a+4:=fun x=>by subst x;rw[j]at H;cases H;simp at M
   exact ycF j (by simp) fun L _ h=>he rfl L e _ (fun d o c1 T q=>h.extBut _ _ c1 (f _ _ T q)) ⟨Y,h.extBut _ _ R H,M⟩
 ·refine yaa (yb6 i rfl ?_);refine yaa (wpAny_newTuple ?_ (hsz:=by show(2:Nat)<=_;decide));have j:IsZip b (a+4) (a+2) (a+3) .ellipsis:=k₂ _ _ (by omega) (by omega) (by omega) r;have hsz:b.objs.size=s.heap.objs.size:=f.trans C.1;show wpAny _ _ (Builtin.SmallTypes.ownedTupleHandOut (.ref (a+4)) (.ref b.objs.size) >>= _) _ _ _;refine yaa ?_;unfold Builtin.SmallTypes.ownedTupleHandOut;refine yaa (ycF (yac _ j) (by simp) fun K t B=>?_);replace t:IsZip K (a+4) (a+2) (a+3) (rawInt b.objs.size):=t;refine ycF t (by simp) fun u p z=>?_
  replace p:IsZip u (a+4) (a+2) (a+3) (rawInt b.objs.size):=p;have lt:a+4<b.objs.size:=yao j;have up:∀(c:Nat) (o:Obj),c≠a+4->b.get? c=some o->u.get? c=some o:=fun c o c1 e=>z.extBut _ _ c1 (B.extBut _ _ c1 (yac _ e))
  have W:IsT u b.objs.size [x,y]:=z.extBut _ _ (yaQ lt) (B.extBut _ _ (yaQ lt) (yaq _ rfl));rw[hsz]at p W;refine yae ⟨_,rfl,?_⟩;show Q (.ref b.objs.size) _;rw[hsz];exact hQ x y u tk O hy ⟨p,up _ _ (by omega) (k₂ _ _ (by omega) (by omega) (by omega) (k₁ _ _ (by omega) N)),⟨x,y,up _ _ (by omega) i⟩,i1.keep fun o e=>up _ o (by omega) e,i2.keep fun o e=>up _ o (by omega) e⟩ W fun c o J e=>up c o (by omega) (k₂ c o (by omega) (by omega) (by omega) (k₁ c o (by omega) e))
def zmK:Meets (Builtin.«zip.__new__» ⟨[.type "zip",.ref l,.ref m],[]⟩) (fun _ R s=>zgP q s.heap l us/\zgP q s.heap m vs ∧
   ∀h' n,n=s.heap.objs.size->(∀(c:Nat) (o:Obj),s.heap.get? c=some o->h'.get? c=some o)->ZSt q n l m 0 .none h'->R (.ok (.ret (.ref (n+4)))) {s with heap:=h'}):=
 .of_wp fun prog w A R s h=>by
  obtain⟨r,g,d,tk,os⟩:=s;obtain⟨f,b,h⟩:=h;have k:=sub_zip;have j:zgP q (Shared.heap ⟨r,g,d,tk,os⟩) l us:=f;have i:zgP q (Shared.heap ⟨r.push {cls:=.type (itN q),data:=.fields #[.ref l,.int 0 0]},g,d,tk,os⟩) m vs:=zgP.keep b fun o e=>yac _ e
  wp_walk using ziq j,ziq i
  refine⟨_,rfl,?_⟩;have p {h:Heap}{o':Obj}{a:Addr}{o:Obj} (e:h.get? a=some o):(h.push o').get? a=some o:=yac _ e
  have u:∀{h:Heap}{o:Obj}{a:Addr},a=h.objs.size->o.isFreed=false->(h.push o).get? a=some o:=fun e t=>by rw[e];exact yaq _ t
  simp only[ya6];exact h _ _ rfl (fun c o e=>p (p (p (p (p e))))) ⟨u (by simp only[ya6]) rfl,p (p (u (by simp only[ya6]) rfl)),⟨_,_,p (u (by simp only[ya6]) rfl)⟩,zpN (p (p (p (p (u rfl rfl))))),zpN (p (p (p (u (by simp only[ya6]) rfl))))⟩
end
noncomputable def zFp(a:Nat):List Addr:=(List.range 5).map (a+·)
theorem ze7{a b:Nat}:b∈zFp a↔a<=b/\b<a+5:=by
 unfold zFp;rw[yat];exact⟨fun⟨j,c,e⟩=>by rw[ybd]at c;have e:a+j=b:=e;omega,fun⟨h1,h2⟩=>⟨b-a,ybd.mpr (by omega),by show a+(b-a)=b;omega⟩⟩
theorem zi2{a b:Nat}(h:b ∉ zFp a):b<a\/a+4<b:=by rw[ze7]at h;omega
theorem ZSt.keep{q:Bool}{a l m i:Nat}{f:Value}{h h':Heap}(Z:ZSt q a l m i f h)(k:∀(c:Nat) (o:Obj),a<=c->c<a+5->h.get? c=some o->h'.get? c=some o):ZSt q a l m i f h':=
 ⟨k _ _ (by omega) (by omega) Z.z,k _ _ (by omega) (by omega) Z.ti,let ⟨x,y,e⟩:=Z.to;⟨x,y,k _ _ (by omega) (by omega) e⟩,Z.i1.keep fun o e=>k _ o (by omega) (by omega) e,Z.i2.keep fun o e=>k _ o (by omega) (by omega) e⟩
section
variable{X:Cx}{pins:Z3}{σ:St}{H:Hp}{s:Shared}
noncomputable def sqO(q:Bool)(xs:List V):HO:=match q with|true=>.lst xs|false=>.tup xs
def Inv.sq(I:Inv X pins σ H s)(h:H a=some (sqO q xs)):∃J:List Value,Vals xs J/\zgP q s.heap a J.toArray:=by
 cases q with
 |true=>obtain⟨J,b,p,_⟩:=I.list (SqL.of h);exact⟨J,b,p.isList⟩|false=>obtain⟨J,b,p,_⟩:=I.tuple (SqT.of h);exact⟨J,b,p⟩
def ItZ(q:Bool)(l m:Addr):It:=
 ⟨fun i H=>∃xs ys,H l=some (sqO q xs)/\H m=some (sqO q ys)/\i<xs.length/\i<ys.length,
  fun i H v H'=>∃t x y xs ys,v=.ref t/\H t=none/\H'=upd H t (.tup [x,y])/\H l=some (sqO q xs)/\H m=some (sqO q ys)/\xs[i]?=some x/\ys[i]?=some y,
  fun i H=>∃xs ys,H l=some (sqO q xs)/\H m=some (sqO q ys)/\i<=xs.length/\i<=ys.length/\(i=xs.length\/i=ys.length)⟩
def zp4{fp:List Addr}{T:Addr}{h2:Heap}{tk:Nat}{us:List Value}{ys:List V}(I:Inv X pins σ H s)(hf:∀b∈fp,znD X pins H b)(J:T=s.heap.objs.size)(te:IsT h2 T us)
  (k:∀b o,b ∉ fp->s.heap.get? b=some o->h2.get? b=some o) (r:Vals ys us) (U:us.length<=9):Inv X pins σ (upd H T (.tup ys)) {s with heap:=h2,toks:=tk}/\H T=none:=by
 have fr:H T=none:=by rw[J];exact I.hok.fresh (yag _)
 refine⟨?_,fr⟩;have f:Inv X pins σ H {s with heap:=h2,toks:=tk}:=I.turnedL (ch:=fp) (fun b o d q=>k b o d q) hf;refine f.track fr (by rw[J];exact I.sz) (by rw[J];exact yaQ I.lt) (fun z c q=>?_) (fun p a=>?_) ?_
 ·obtain⟨v,e⟩:=I.cell z c q;rw[J];exact yaz e.lt
 ·rw[J];exact yaz (yao (I.pin p a).1)
 ·exact⟨yak (r.length ▸ U) (by decide),us,r,_,te,rfl,_,rfl⟩
theorem znI{P:Program}{w:World}{K:PySem.W.Frag}{elts:List Expr}{x1:Nat}{pos:Pos}{q:Bool}{a l m:Nat}(hl:l<a)(hm:m<a):
  Turn P w K (.Tuple elts x1 pos) (ItZ q l m) (zFp a) (a+4) (fun i h=>ZSt q a l m i .none h)where
 mem:=ze7.mpr (by omega)
 obj:=fun i h st b d=>by
  obtain⟨Z,hI,⟨x,y,hO⟩,h3,h4⟩:=st;obtain⟨h1,h2⟩:=ze7.mp d;obtain⟨j,rfl⟩:∃j,b=a+j:=⟨b-a,(ybZ h1).symm⟩
  match j,h2 with
  |0,_=>exact h3.live|1,_=>exact h4.live|2,_=>exact⟨_,hI,fun v e=>by cases e⟩
  |3,_=>exact⟨_,hO,fun v e=>by cases e⟩
  |4,_=>exact⟨_,Z,fun v e=>by cases e⟩
  |j+5,h=>omega
 keep:=fun i h h' st k=>st.keep fun c o c1 c2 e=>k _ (ze7.mpr ⟨c1,c2⟩) _ e
 item:=by
  intro X U N V n i pins s σ H E I hf st Q;subst U N V;obtain⟨xs,ys,g1,g2,hi,O⟩:=Q;obtain⟨us,g,t1⟩:=I.sq g1;obtain⟨vs,f,B⟩:=I.sq g2;have p:s.TypeIs (.ref (a+4)) "zip":=⟨_,st.z,rfl⟩;unfold pyNext
  refine yaa (yc1 (yaX (name:=Str.ofString "__next__") p yc9 (ya0 yc9 p F.entry_zip_next
   (zjF (A:=X.A.in1) (I.ok.hd n) st hl hm t1 B (by rw[yah,<-g.length];exact ybV hi) (by rw[yah,<-f.length];exact ybV O) (fun x y h' tk u t a1 a4 a5=>yae ?_)
    (fun e=>by rw[yah,yah,<-g.length,<-f.length]at e;omega)) (F.args_zip_next_1 _))))
  have C:a+4<s.heap.objs.size:=yao st.z;refine⟨_,rfl,wpAny_letOwnedTupleGo_zip a1.z fun r D Y=>?_⟩;have kb:∀(c:Nat) (o:Obj),c≠a+4->h'.get? c=some o->r.get? c=some o:=fun c o n e=>(Y.2 c n).trans e
  obtain⟨x',M,L⟩:=g.get (yad hi);obtain⟨y',J,G⟩:=f.get (yad O);rw[List.getElem?_toArray,M]at u;cases u;rw[List.getElem?_toArray,J]at t;cases t;obtain⟨I2,fr⟩:=zp4 (tk:=tk) (h2:=r) I hf rfl (kb _ _ (yaQ C) a4) (fun b o d q=>kb b o (by have:=zi2 d;omega) (a5 b o (zi2 d) q)) (.cons L (.cons G .nil)) (by simp);refine⟨.ref s.heap.objs.size,_,I2,rfl,⟨_,_,_,xs,ys,rfl,fr,rfl,g1,g2,yad hi,yad O⟩,⟨D,kb _ _ (by omega) a1.ti,let ⟨x,y,e⟩:=a1.to;⟨x,y,kb _ _ (by omega) e⟩,a1.i1.keep fun o e=>kb _ o (by omega) e,a1.i2.keep fun o e=>kb _ o (by omega) e⟩,fun b d=>?_⟩;rw[zai (fun e=>by have:=(ze7.mp (e ▸ d)).2;omega)];exact(hf b d).1
 done:=by
  intro X U N V n i pins s σ H E I hf st Q;subst U N V;obtain⟨xs,ys,g1,g2,h1,h2,hi⟩:=Q;obtain⟨us,g,t1⟩:=I.sq g1;obtain⟨vs,f,B⟩:=I.sq g2;have p:s.TypeIs (.ref (a+4)) "zip":=⟨_,st.z,rfl⟩;unfold pyNext
  refine yaa (yc1 (yaX (name:=Str.ofString "__next__") p yc9 (ya0 yc9 p F.entry_zip_next
   (zjF (A:=X.A.in1) (I.ok.hd n) st hl hm t1 B (by rw [yah,<-g.length];exact h1) (by rw [yah,<-f.length];exact h2) (fun x y h' tk u t=>by
     have e1:=(ybE.mp u).1;have e2:=(ybE.mp t).1;rw[yah,<-g.length]at e1;rw[yah,<-f.length]at e2
     omega) (fun _ h' e tk hk R=>?_)) (F.args_zip_next_1 _))))
  obtain⟨o,ho,S⟩:=R;refine yaa (yco (T:="StopIteration") (b:=true) ⟨o,ho,S⟩ isSubtype_stop ?_);exact yae ⟨rfl,I.turnedL (ch:=zFp a) (fun b o d q=>hk b o (zi2 d) q) hf⟩
 self:=fun _ _ _ _ _ st h=>wpAny_pyIter_zip st.z h
theorem zo6:bootBuiltins "zip"=some (.type "zip"):=by decide +kernel
def zsb(I:Inv X pins σ H1 s1)(g1:H1 l=some (sqO q xs))(g2:H1 m=some (sqO q ys))(J:R (ItZ q l m) H1):
  wpAny (model X.prog X.w) X.A (call (.type "zip") [.ref l,.ref m]) (fun v s2=>wpAny (model X.prog X.w) X.A (pyIter v) (PIE X pins σ (.Tuple elts x1 tp) R) X.xe s2) X.xe s1:=by
 obtain⟨us,h,t1⟩:=I.sq g1;obtain⟨vs,g,b⟩:=I.sq g2;refine callType_new F.called_zip (by decide) (F.typeCall_zip_2 _ _) (F.newCall_zip_2 _ _) (fun o=>F.args_object_init_3 o _ _) F.entry_zip_new zmK ⟨t1,b,fun h' n a e Z=>?_⟩;refine⟨⟨_,Z.z,rfl⟩,wpAny_pyIter_zip Z.z ?_⟩;refine⟨n+4,zFp n,_,_,H1,rfl,I.kept (t':=s1.toks) e,znI ?_ ?_,Z,fun c f=>?_,J⟩
 ·rw[a];exact t1.lt
 ·rw[a];exact b.lt
 ·have d:s1.heap.objs.size<=c:=a ▸ (ze7.mp f).1;exact I.fpOk d (I.hok.fresh d)
end
end L2
namespace S2
open PySem PySem.Spec PyProof.Rows L2
section
variable{X:Cx}{cl:Cf}{E:St->XK}{e tg:Expr}{f:Fe}{own:Bool}{pos pos':Pos}
noncomputable def zd1(l:List D):List D:=l.zipIdx.map fun p=>.tup [.int p.2,p.1]
def znh(l:List D):(zd1 l).length=l.length:=by unfold zd1;rw[yaf,List.length_zipIdx]
def zni{l:List D}{i:Nat}{d:D}(h:(zd1 l)[i]?=some d):∃y,l[i]?=some y/\d=.tup [.int i,y]:=by
 unfold zd1 at h;rw[yaw,List.getElem?_zipIdx]at h
 cases a:l[i]? with
 |none=>rw[a]at h;cases h|some y=>
  rw[a]at h;refine⟨y,rfl,?_⟩;have:=Option.some.inj h;rw[<-this];simp
def zlb(f:Fe):Fi:=fun ρ S=>(zap [f] ρ S).bind fun ds S1=>match ds with|[.lst l]=>.ok (zd1 l) S1|[.tup l]=>.ok (zd1 l) S1|_=>.bad
theorem zpM(I:∀w',Fut w w'->S w'.H a xs)(r:Shds cl w xs l):ItOk cl w (ItE S a) (zd1 l):=by
 have k:=r.length;have h:=znh l;refine⟨fun b F1 i hi=>⟨xs,xs[i]'(by omega),I b F1,yad (by omega)⟩,fun b F1=>⟨xs,I b F1,by omega⟩,fun b F1 i d x H1 hd y=>?_⟩;obtain⟨t,v,rfl,ht,rfl,f⟩:=y;obtain⟨z,e,rfl⟩:=zni hd;have g:=f xs (I b F1);obtain⟨d',c,j⟩:=r.get g;rw[e]at c;cases c;exact⟨b.add t _,rfl,zaC ht _,Shd.newT ht (.cons (.int _) (.cons (j.up F1) .nil))⟩
def zqu(J:Gl X "enumerate")(hm:X.mg "enumerate"=none)(U:PA X [e] (tAs cl E [f]))(hs:starEach [e] X.env=[(false,eval e X.env)]):PI X (.Tuple es kk tp) (.Call (.Name "enumerate" p) [e] [] pos) (tI cl E (zlb f)):=by
 intro pins s σ H b I q;obtain⟨B,w,ρ,S,rfl,R,q⟩:=q;unfold zlb at q;have L:=zok (elts:=es) (x1:=kk) (tp:=tp) (p:=p) (pos:=pos) J hm U rfl hs pins s σ w.H b I;have T:=zoj (elts:=es) (x1:=kk) (tp:=tp) (p:=p) (pos:=pos) J hm U rfl hs pins s σ w.H b I
 cases hf:zap [f] ρ S with
 |bad=>rw[hf]at q;exact q.elim|exc c S1=>
  refine L ⟨B,w,ρ,S,rfl,R,?_⟩;rw[hf]at q ⊢;exact q
 |ok ds S1=>
  rw[hf]at q;dsimp only[Out.bind]at q;split at q
  ·rename_i g S' a;split at a
   ·rename_i l;cases a;refine L ⟨B,w,ρ,S,rfl,R,?_⟩;rw[hf];intro vs w' R2 F2 sh
    cases sh with
    |cons h1 h2=>
     cases h2
     cases h1 with
     |lst ep k r=>exact⟨_,rfl,⟨_,SqL.of ep⟩,q _ w' R2 F2 (zpM (fun d F1=>SqL.of (F1.keep _ _ ep k).1) r)⟩
   ·rename_i l;cases a;refine T ⟨B,w,ρ,S,rfl,R,?_⟩;rw[hf];intro vs w' R2 F2 sh
    cases sh with
    |cons h1 h2=>
     cases h2
     cases h1 with
     |tup ep k r=>exact⟨_,rfl,⟨_,SqT.of ep⟩,q _ w' R2 F2 (zpM (fun d F1=>SqT.of (F1.keep _ _ ep k).1) r)⟩
   ·cases a
  ·rename_i a;split at a<;>cases a
  ·exact q.elim
noncomputable def zfn:List D->List D->List D
 |x::xs,y::ys=>.tup [x,y]::zfn xs ys|_,_=>[]
theorem zfC:∀(xs ys:List D),(zfn xs ys).length=min xs.length ys.length
 |[],_=>by simp[zfn]
 |_::_,[]=>by simp[zfn]
 |_::xs,_::ys=>by simp[zfn,zfC xs ys]
theorem zhc:∀{xs ys:List D}{i:Nat}{d:D},(zfn xs ys)[i]?=some d->∃x y,xs[i]?=some x/\ys[i]?=some y/\d=.tup [x,y]
 |[],_,_,_,h=>by simp[zfn]at h
 |_::_,[],_,_,h=>by simp[zfn]at h
 |x::xs,y::ys,0,d,h=>by
  simp only[zfn,ycG,Option.some.injEq]at h;exact⟨x,y,rfl,rfl,h.symm⟩
 |x::xs,y::ys,i+1,d,h=>by
  simp only[zfn,List.getElem?_cons_succ]at h ⊢;exact zhc h
def zsc:List D->Option (List D)|[.tup l,.tup k]=>some (zfn l k)|[.lst l,.lst k]=>some (zfn l k)|_=>none
def zk7(f g:Fe):Fi:=fun ρ S=>(zap [f,g] ρ S).bind fun ds S1=>match zsc ds with|some l=>.ok l S1|none=>.bad
theorem zpL(h1:∀w',Fut w w'->w'.H U=some (sqO q xs))(h2:∀w',Fut w w'->w'.H J=some (sqO q ys))(r1:Shds cl w xs ds)(I:Shds cl w ys es):ItOk cl w (ItZ q U J) (zfn ds es):=by
 have u:=r1.length;have s:=I.length;have r:=zfC ds es
 have inj:∀{a b:List V},some (sqO q a)=some (sqO q b)->a=b:=fun h=>by cases q<;>cases h<;>rfl
 refine⟨fun c F1 i hi=>⟨xs,ys,h1 c F1,h2 c F1,by omega,by omega⟩,fun c F1=>⟨xs,ys,h1 c F1,h2 c F1,by omega,by omega,by omega⟩,fun c F1 i d x H1 hd y=>?_⟩;obtain⟨t,v1,v2,l,k,rfl,ht,rfl,g1,g2,n,m⟩:=y;obtain⟨p,o,f,e,rfl⟩:=zhc hd;cases inj ((h1 c F1).symm.trans g1);cases inj ((h2 c F1).symm.trans g2);obtain⟨d1,j,s1⟩:=r1.get n;obtain⟨d2,g,s2⟩:=I.get m;rw[f]at j;cases j;rw[e]at g;cases g;exact⟨c.add t _,rfl,zaC ht _,Shd.newT ht (.cons (s1.up F1) (.cons (s2.up F1) .nil))⟩
def zp5{w:Wd}{vs:List V}{ds l:List D}(h:zsc ds=some l)(sh:Shds cl w vs ds):∃q a b xs ys,vs=[.ref a,.ref b]/\w.H a=some (sqO q xs)/\w.H b=some (sqO q ys)/\ItOk cl w (ItZ q a b) l:=by
 unfold zsc at h
 split at h<;>cases h<;>obtain _|⟨h1,_|⟨h2,⟨⟩⟩⟩:=sh
 ·cases h1 with|tup d k1 r1=>cases h2 with|tup c k2 f=>exact⟨false,_,_,_,_,rfl,d,c,zpL (fun e F1=>(F1.keep _ _ d k1).1) (fun e F1=>(F1.keep _ _ c k2).1) r1 f⟩
 ·cases h1 with|lst d k1 r1=>cases h2 with|lst c k2 f=>exact⟨true,_,_,_,_,rfl,d,c,zpL (fun e F1=>(F1.keep _ _ d k1).1) (fun e F1=>(F1.keep _ _ c k2).1) r1 f⟩
def zsP(U:Gl X "zip")(hm:X.mg "zip"=none)(ha:PA X [a,e] (tAs cl E [fa,f]))(hs:starEach [a,e] X.env=(false,eval a X.env)::starEach [e] X.env)(J:(backTo pos (starEach [e] X.env)).any (·.1)=false):PI X (.Tuple es kk tp) (.Call (.Name "zip" p) [a,e] [] pos) (tI cl E (zk7 fa f)):=by
 intro pins s σ H j I q;refine Call_ (zfs I U hm L2.zo6 (ya8 (thn (ha pos pins s σ H (fun vs H1=>∃q l m xs ys,vs=[.ref l,.ref m]/\H1 l=some (sqO q xs)/\H1 m=some (sqO q ys)/\j (ItZ q l m) H1) I ?_) fun us s1 ⟨vs,H1,k,r1,g⟩=>?_) hs J))
 ·obtain⟨B,w,ρ,S,rfl,R,q⟩:=q;refine⟨B,w,ρ,S,rfl,R,?_⟩;dsimp only[zk7]at q
  cases hf:zap [fa,f] ρ S with
  |bad=>rw[hf]at q;exact q.elim|exc c S1=>rwa[hf]at q|ok ds S1=>
   rw[hf]at q;dsimp only[Out.bind]at q;intro vs w' R2 F2 sh
   cases d:zsc ds with
   |none=>rw[d]at q;exact q.elim|some l=>
    rw[d]at q;obtain⟨b,i,h,xs,ys,e,g1,g2,it⟩:=zp5 d sh;exact⟨b,i,h,xs,ys,e,g1,g2,q _ w' R2 F2 it⟩
 ·obtain⟨b,l,m,xs,ys,rfl,g1,g2,q⟩:=g
  obtain _|⟨⟨⟩,_|⟨⟨⟩,⟨⟩⟩⟩:=r1
  exact zsb k g1 g2 q
def zr2(i:Nat)(fe:Fe):Fs:=fun ρ S=>match ρ[i]? with
 |some (some (true,.lst l))=>(match fe ρ S with
  |.ok (.lst k) S'=>if zbh (l.length+k.length)then .nx (ρ.set i (some (true,.lst (l++k)))) S' else .bad
  |.ok _ _=>.bad|.exc c S'=>.ex c ρ S'|.bad=>.bad)
 |_=>.bad
def zsH(hN:X.N[i]?=some x)(U:Vis X.env.scope x)(hd:(x==("__debug__":Str))=false)(J:(x==("__classdict__":Str))=false)(he:PE X e (tH cl E f))
  (ah:zcb e=true) (I:(ap.endLine==cp.line)=true):PS X (.Expr (.Call (.Attribute (.Name x pos') "extend" ap) [e] [] cp) pos) (tS cl E own (zr2 i f)):=by
 refine PS.imp (zcU (zkT (es:=[]) yaY PySem.F.slot_list_extend PySem.F.type_list_extend zmH (za0 hN U hd J) (zam he zaQ (zbI ah)) (hfew:=znc (by simp[ah]) (by simp)) (aa:=I) (hs:=zbI ah) (aj:=rfl))) ?_;rintro De σ H ⟨B,w,ρ,S,rfl,R,q⟩;unfold zr2 at q;split at q
 ·rename_i l u;obtain⟨a,xs,p,h1,h2,t⟩:=R.list u;refine⟨_,p,.inl ⟨rfl,_,SqL.of h2⟩,B,w,ρ,S,rfl,R,?_⟩
  cases hf:f ρ S with
  |bad=>rwa[hf]at q|exc c S1=>rw[hf]at q;exact fun w' m r=>q σ w' m r|ok d S1=>
   rw[hf]at q;intro v w' m r h'
   cases d with
   |lst k=>
    dsimp only at q
    cases n:zbh (l.length+k.length)with
    |false=>rw[n,if_neg (by decide)]at q;exact q.elim
    |true=>
     rw[n,if_pos rfl]at q;obtain⟨z,g,j,h,o,t'⟩:=m.list u;rw[p]at j;cases j;obtain⟨b,zs,rfl,y,s⟩:=(h'.top m).lstI;refine⟨a,b,g,zs,rfl,rfl,o,y,by rw[t'.length,s.length];exact zbm n,?_⟩;exact q σ (w'.mut a (.lst (g++zs))) (m.mut (d0:=.non) p h (.lst (t'.append s))) (r.trans (zdj (by rw[h];exact yaE _)))
   |_=>exact q.elim
 ·exact q.elim
end
noncomputable def zr5(g:Str->Str->Option Bool)(C:Str):D->Option D
 |.exc c=>(g c C).map .bl|_=>none
noncomputable def zuE(cl:Cf)(C:Str):Value:=if C="ValueError"then .type "ValueError"else .ref (cl C)
section
variable{X:Cx}{cl:Cf}{E:St->XK}{own:Bool}{e:Expr}{f fe:Fe}{pos pos':Pos}
def Shd.excI(h:Shd cl w v (.exc c)):∃a ob,v=.ref a/\w.H a=some (.frz ob (.own a))/\ob.cls=.ref (cl c):=by
 cases h with
 |exc h1 _ h2=>exact⟨_,_,rfl,h1,h2⟩
theorem TopV.excI(h:TopV cl w v (.exc c)):∃a ob,v=.ref a/\w.H a=some (.frz ob (.own a))/\ob.cls=.ref (cl c):=by
 cases h with
 |sh h=>exact h.excI|ow _ t=>cases t
theorem zlh:bootBuiltins "ValueError"=some (.type "ValueError"):=by decide +kernel
def zpr(hg:Gl X "isinstance")(hm:X.mg "isinstance"=none)(hC:PE X (.Name C p2) (tC vC))(J:∀u,zbu vC u->u=zuE cl C)
  (U:∀c b,g c C=some b->PySem.W.ExcCls X.K (cl c)/\PySem.W.kitOne X.K (.ref (cl c)) (zuE cl C)=some b) (I:zcb e=true) (he:PE X e (tH cl E f)):
  PE X (.Call (.Name "isinstance" p) [e,.Name C p2] [] pos) (tE cl E (eUn (zr5 g C) f)):=by
 refine PE.imp (zbA zlg hg hm zcc (zam he (zam hC zaQ rfl) (zbI I)) (he:=zbI I) (ah:=rfl)) ?_;rintro σ H Q ⟨B,w,ρ,S,rfl,R,q⟩;refine⟨B,w,ρ,S,rfl,R,?_⟩;unfold eUn at q
 cases hf:f ρ S with
 |bad=>rwa[hf]at q|exc c S1=>rwa[hf]at q|ok d S1=>
  rw[hf]at q;intro v j i F1 h1;dsimp only[Out.bind]at q
  cases d with
  |exc c=>
   dsimp only[zr5]at q
   cases h:g c C with
   |none=>rw[h]at q;exact q.elim|some b=>
    rw[h]at q;obtain⟨k1,k2⟩:=U c b h;obtain⟨a,ob,rfl,h2,k⟩:=(h1.top i).excI;exact⟨a,_,ob,vC,_,b,rfl,h2,k,k1,J,k2,q _ j i F1 (.bl _)⟩
  |_=>exact q.elim
end
end S2
namespace PySem.F
end PySem.F
namespace L2
open PySem PySem.Spec PyProof.Rows
end L2
namespace PySem.F
end PySem.F
namespace L2
open PySem PySem.Spec PyProof.Rows
end L2
namespace S2
open PySem PySem.Spec PyProof.Rows L2
noncomputable def zaN(f:Str)(o:Bool)(d:D):List (Str×Bool×D)->List (Str×Bool×D)
 |[]=>[(f,o,d)]|(g,x)::r=>if g=f then(g,o,d)::r else(g,x)::zaN f o d r
def Ob.put(ob:Ob)(f:Str)(o:Bool)(d:D):Ob:=⟨ob.cls,zaN f o d ob.fs⟩
section
variable{cl:Cf}{w:Wd}{n:Nat}
def zda.len(h:zda cl w n fs gs):fs.length=gs.length:=Paired.length h
def zda.look(h:zda cl w n fs gs)(e:gs.lookup f=some (o,d)):∃v,fs.lookup f=some v/\zjE cl w (.fld n f) o v d:=by
 induction h with
 |nil=>cases e| @cons p q j i h t c=>
  obtain⟨h1,h2⟩:=h;obtain⟨g,v⟩:=p;obtain⟨g',o',d'⟩:=q;have b:g=g':=h1;subst b;rw[yaA]at e ⊢
  cases a:f==g with
  |true=>
   rw[a]at e;cases e;have:=eq_of_beq a;subst this;exact⟨v,rfl,h2⟩
  |false=>
   rw[a]at e;exact c e
def zda.miss(h:zda cl w n fs gs)(e:gs.lookup f=none):fs.lookup f=none:=by
 induction h with
 |nil=>rfl| @cons p q i d h t c=>
  obtain⟨h1,h2⟩:=h;obtain⟨g,v⟩:=p;obtain⟨g',o',d'⟩:=q;have a:g=g':=h1;subst a;rw[yaA]at e ⊢
  cases b:f==g with
  |true=>rw[b]at e;cases e|false=>rw[b]at e;exact c e
def zda.put(h:zda cl w n fs gs)(I:zjE cl w (.fld n f) o y d):zda cl w n (zde f y fs) (zaN f o d gs):=by
 induction h with
 |nil=>exact .cons ⟨rfl,I⟩ .nil| @cons p q e c h t i=>
  obtain⟨h1,h2⟩:=h;obtain⟨g,v⟩:=p;obtain⟨g',o',d'⟩:=q;have b:g=g':=h1;subst b;show zda cl w n (if g=f then(g,y)::e else(g,v)::zde f y e) (if g=f then(g,o,d)::c else(g,o',d')::zaN f o d c)
  by_cases a:g=f
  ·subst a;rw[if_pos rfl,if_pos rfl];exact .cons ⟨rfl,I⟩ t
  ·rw[if_neg a,if_neg a];exact .cons ⟨rfl,h2⟩ i
def zda.keepBut(f:Fut w w')(k:∀a o g,g≠x->w.H a=some o->w.ow a=some (.fld n g)->w'.H a=some o/\w'.ow a=some (.fld n g))(h:zda cl w n fs gs)(I:∀q∈gs,q.1=x->q.2.1=false):zda cl w' n fs gs:=by
 induction h with
 |nil=>exact .nil| @cons p q r m h t c=>
  obtain⟨h1,h2⟩:=h;refine .cons ⟨h1,?_⟩ (c fun q i=>I q (yas _ i))
  by_cases b:q.1=x
  ·have j:=I q yay b;rw[j]at h2 ⊢
   rcases h2 with⟨_,h2⟩|⟨e,_⟩|⟨e,_⟩
   ·exact .inl ⟨rfl,Shd.up f h2⟩
   ·cases e
   ·cases e
  ·exact h2.keep f fun a o l d=>k a o q.1 b l d
def zda.keepF(f:Fut w w')(k:∀a o g,w.H a=some o->w.ow a=some (.fld n g)->w'.H a=some o/\w'.ow a=some (.fld n g))(h:zda cl w n fs gs):zda cl w' n fs gs:=by
 induction h with
 |nil=>exact .nil| @cons p q i e h t b=>exact .cons ⟨h.1,h.2.keep f fun a o d c=>k a o q.1 d c⟩ b
variable{B:Base}{σ:St}{ρ:Env}{S:Sto}
def World'.atObj(W:World' cl B w S)(h:S[n]?=some ob)(e:w.mu[n]?=some a):zuU cl w n a ob:=by
 obtain⟨c,b,x⟩:=W.obj n ob h;rw[e]at b;cases b;exact x
def zgm(h:(S.set n ob)[m]?=some I):(m=n/\I=ob)\/(m≠n/\S[m]?=some I):=by
 by_cases e:n=m
 ·subst e
  have a:n<S.length:=by
   have:=(yal.mp h).1;rwa[yau]at this
  rw[yam a]at h;cases h;exact .inl ⟨rfl,rfl⟩
 ·rw[yax e]at h;exact .inr ⟨fun z=>e z.symm,h⟩
def Rel.setf(R:Rel cl B σ w ρ S)(hn:S[n]?=some ob)(I:w.mu[n]?=some a)(how:w.ow a=some (.obj n))(hH:w.H a=some (.ins (cl ob.cls) dx fs))(U:zda cl w n fs ob.fs)(J:Shd cl w y d):
  Rel cl B σ (w.mut a (.ins (cl ob.cls) dx (zde f y fs))) ρ (S.set n (ob.put f false d))/\Fut w (w.mut a (.ins (cl ob.cls) dx (zde f y fs))):=by
 have k:=zdj (w:=w) (p:=a) (o:=.ins (cl ob.cls) dx (zde f y fs)) (by rw[how];exact yaE _)
 have kp:∀b u,w.H b=some u->w.ow b≠some (.obj n)->(w.mut a (.ins (cl ob.cls) dx (zde f y fs))).H b=some u/\(w.mut a (.ins (cl ob.cls) dx (zde f y fs))).ow b=w.ow b:=fun b u j c=>⟨by
  show upd w.H a _ b=_
  rw[zai (fun z=>c (by rw[z];exact how))];exact j,rfl⟩
 have s:B.Fr a=none:=(R.wd.own a _ how).elim (fun z=>by cases z) fun z=>z
 refine⟨⟨⟨fun b u h=>?_,R.wd.own,by rw[yau];exact R.wd.len,fun m l h=>?_⟩,R.len,fun i o e h=>?_⟩,k⟩
 ·refine⟨?_,(R.wd.fr b u h).2⟩;show upd w.H a _ b=_;rw[zai (fun z=>by rw[z,s]at h;cases h)];exact(R.wd.fr b u h).1
 ·rcases zgm h with⟨rfl,rfl⟩|⟨c,h⟩
  ·refine⟨a,I,how,dx,_,zan,?_⟩;exact zda.put (U.keepF k fun b u g j r=>⟨(kp b u j (by rw[r];exact fun z=>by cases z)).1,r⟩) (.inl ⟨rfl,J.up k⟩)
  ·obtain⟨b,e,x⟩:=R.wd.obj m l h;exact⟨b,e,x.keep k fun b u j hm=>kp b u j fun z=>by rw[z]at hm;exact c hm.symm⟩
 ·obtain⟨v,t,x⟩:=R.slots i o e h;exact⟨v,t,x.keep k fun b u j q=>⟨(kp b u j (by rw[q];exact fun z=>by cases z)).1,q⟩⟩
def Wd.addF(w:Wd)(p:Addr)(o:HO)(n:Nat)(f:Str):Wd:=⟨upd w.H p o,fun b=>if b=p then some (.fld n f)else w.ow b,w.mu⟩
def Rel.newf(R:Rel cl B σ w ρ S)(hn:S[n]?=some ob)(J:w.mu[n]?=some a)(how:w.ow a=some (.obj n))(U:w.H a=some (.ins (cl ob.cls) dx fs))(hF:zda cl w n fs ob.fs)(I:w.H p=none):
  Rel cl B σ ((w.addF p (.ext (DN cl.P cl.wo p [])) n f).mut a (.ins (cl ob.cls) dx (zde f (.ref p) fs))) ρ (S.set n (ob.put f true (.dic [])))/\Fut w ((w.addF p (.ext (DN cl.P cl.wo p [])) n f).mut a (.ins (cl ob.cls) dx (zde f (.ref p) fs))):=by
 have k:a≠p:=zal U I
 have kp:∀b u,w.H b=some u->w.ow b≠some (.obj n)->((w.addF p (.ext (DN cl.P cl.wo p [])) n f).mut a (.ins (cl ob.cls) dx (zde f (.ref p) fs))).H b=some u/\((w.addF p (.ext (DN cl.P cl.wo p [])) n f).mut a (.ins (cl ob.cls) dx (zde f (.ref p) fs))).ow b=w.ow b:=fun b u c d=>by
  have j:b≠p:=zal c I;refine⟨?_,?_⟩
  ·show upd (upd w.H p _) a _ b=_;rw[zai (fun z=>d (by rw[z];exact how)),zai j];exact c
  ·show(if b=p then _ else w.ow b)=_;rw[if_neg j]
 have l:Fut w ((w.addF p (.ext (DN cl.P cl.wo p [])) n f).mut a (.ins (cl ob.cls) dx (zde f (.ref p) fs))):=⟨fun b u c D=>by
  have:=kp b u c (by rw[D];exact fun z=>by cases z)
  exact⟨this.1,this.2.trans D⟩,fun _ _ h=>h⟩
 have G:B.Fr a=none:=(R.wd.own a _ how).elim (fun z=>by cases z) fun z=>z
 have A:B.Fr p=none:=by
  cases z:B.Fr p with
  |none=>rfl|some u=>have:=(R.wd.fr p u z).1;rw[I]at this;cases this
 have Hp:((w.addF p (.ext (DN cl.P cl.wo p [])) n f).mut a (.ins (cl ob.cls) dx (zde f (.ref p) fs))).H p=some (.ext (DN cl.P cl.wo p [])):=by
  show upd (upd w.H p _) a _ p=_;rw[zai k.symm,zan]
 have q:((w.addF p (.ext (DN cl.P cl.wo p [])) n f).mut a (.ins (cl ob.cls) dx (zde f (.ref p) fs))).ow p=some (.fld n f):=if_pos rfl
 have s:((w.addF p (.ext (DN cl.P cl.wo p [])) n f).mut a (.ins (cl ob.cls) dx (zde f (.ref p) fs))).ow a=some (.obj n):=by
  show(if a=p then _ else w.ow a)=_;rw[if_neg k];exact how
 refine⟨⟨⟨fun b u h=>?_,fun b r h=>?_,by rw[yau];exact R.wd.len,fun m t h=>?_⟩,R.len,fun i o e h=>?_⟩,l⟩
 ·have:=kp b u (R.wd.fr b u h).1 fun z=>by
   rcases R.wd.own b _ z with y|y
   ·cases y
   ·rw[h]at y;cases y
  exact⟨this.1,this.2.trans (R.wd.fr b u h).2⟩
 ·have h':(if b=p then some (Root.fld n f)else w.ow b)=some r:=h;split at h'
  ·rename_i z;rw[z];exact .inr A
  ·exact R.wd.own b r h'
 ·rcases zgm h with⟨rfl,rfl⟩|⟨d,h⟩
  ·refine⟨a,J,s,dx,_,zan,?_⟩;refine zda.put (hF.keepF l fun b u g c E=>?_) (.inr (.inl ⟨rfl,p,[],[],[],rfl,q,Hp,.nil,.nil,rfl⟩));have:=kp b u c (by rw[E];exact fun z=>by cases z);exact⟨this.1,this.2.trans E⟩
  ·obtain⟨b,e,x⟩:=R.wd.obj m t h;exact⟨b,e,x.keep l fun b u c hm=>kp b u c fun z=>by rw[z]at hm;exact d hm.symm⟩
 ·obtain⟨v,F,x⟩:=R.slots i o e h
  exact⟨v,F,x.keep l fun b u c C=>by
   have:=kp b u c (by rw[C];exact fun z=>by cases z)
   exact⟨this.1,this.2.trans C⟩⟩
noncomputable def zdQ(ob:Ob):Bool:=decide (ob.fs.map (·.1)).Nodup
def zda.dic(I:Fut w w')(k:∀b o g,g≠f->w.H b=some o->w.ow b=some (.fld n g)->w'.H b=some o/\w'.ow b=some (.fld n g))(J:zjE cl w' (.fld n f) true (.ref a) d):∀{fs:List (Str×V)}{gs:List (Str×Bool×D)},zda cl w n fs gs->(gs.map (·.1)).Nodup->fs.lookup f=some (.ref a)->zda cl w' n fs (zaN f true d gs):=by
 intro fs gs h
 induction h with
 |nil=>intro _ e;cases e| @cons p q m i h t r=>
  intro nd e;obtain⟨h1,h2⟩:=h;obtain⟨g,v⟩:=p;obtain⟨g',o',d'⟩:=q;have l:g=g':=h1;subst l;rw[yav,ybk]at nd;show zda cl w' n ((g,v)::m) (if g=f then(g,true,d)::i else(g,o',d')::zaN f true d i);rw[yaA]at e
  by_cases c:g=f
  ·subst c;rw[if_pos rfl];simp only[ybn]at e;cases e;refine .cons ⟨rfl,J⟩ ?_;have t':zda cl w n m i:=t;exact t'.keepBut I k fun q x s=>absurd (yat.mpr ⟨q,x,s⟩) nd.1
  ·rw[if_neg c];have j:(f==g)=false:=ya2.mpr fun z=>c z.symm
   rw[j]at e;exact .cons ⟨rfl,h2.keep I fun b o j u=>k b o g c j u⟩ (r nd.2 e)
def Rel.setd(R:Rel cl B σ w ρ S)(hn:S[n]?=some ob)(J:w.mu[n]?=some a)(how:w.ow a=some (.obj n))(hH:w.H a=some (.ins (cl ob.cls) dx fs))(hF:zda cl w n fs ob.fs)
  (hl:fs.lookup f=some (.ref c)) (I:w.ow c=some (.fld n f)) (a3:w.H c=some (.ext (DN cl.P cl.wo c xs))) (he:zkB w xs m) (hs:ShdN cl w m ds) (hk:znH w kb k) (U:zbu v u) (hv:Shd cl w v d) (nd:zdQ ob=true):
  Rel cl B σ (w.mut c (.ext (DN cl.P cl.wo c (xs++[(k,kb,u)])))) ρ (S.set n (ob.put f true (.dic (ds++[(nkD k,d)]))))/\Fut w (w.mut c (.ext (DN cl.P cl.wo c (xs++[(k,kb,u)])))):=by
 have j:=zdj (w:=w) (p:=c) (o:=.ext (DN cl.P cl.wo c (xs++[(k,kb,u)]))) (by rw[I];exact yaE _)
 have kp:∀b o,w.H b=some o->w.ow b≠some (.fld n f)->(w.mut c (.ext (DN cl.P cl.wo c (xs++[(k,kb,u)])))).H b=some o/\(w.mut c (.ext (DN cl.P cl.wo c (xs++[(k,kb,u)])))).ow b=w.ow b:=fun b o q l=>⟨by
  show upd w.H c _ b=_
  rw[zai (fun z=>l (by rw[z];exact I))];exact q,rfl⟩
 have C:B.Fr c=none:=(R.wd.own c _ I).elim (fun z=>by cases z) fun z=>z
 refine⟨⟨⟨fun b o h=>?_,R.wd.own,by rw[yau];exact R.wd.len,fun y s h=>?_⟩,R.len,fun i o e h=>?_⟩,j⟩
 ·refine⟨?_,(R.wd.fr b o h).2⟩;show upd w.H c _ b=_;rw[zai (fun z=>by rw[z,C]at h;cases h)];exact(R.wd.fr b o h).1
 ·rcases zgm h with⟨rfl,rfl⟩|⟨l,h⟩
  ·refine⟨a,J,how,dx,fs,?_,?_⟩
   ·exact(kp a _ hH (by rw[how];exact fun z=>by cases z)).1
   ·refine zda.dic (a:=c) j (fun b o g A q r=>?_) (.inr (.inl ⟨rfl,c,_,m++[(k,v)],ds++[(nkD k,d)],rfl,I,zan,?_,?_,rfl⟩)) hF (yai nd) hl
    ·exact⟨(kp b o q (by rw[r];exact fun z=>A (by cases z;rfl))).1,r⟩
    ·exact(he.up j).snoc ⟨rfl,hk.up j,U⟩
    ·exact(hs.up j).snoc (hv.up j)
  ·obtain⟨b,e,x⟩:=R.wd.obj y s h;exact⟨b,e,x.keep j fun b o q hm=>kp b o q fun z=>by rw[z]at hm;exact l hm.symm⟩
 ·obtain⟨t,D,x⟩:=R.slots i o e h;exact⟨t,D,x.keep j fun b o q r=>⟨(kp b o q (by rw[r];exact fun z=>by cases z)).1,r⟩⟩
def Wd.addO(w:Wd)(x dx C:Addr)(n:Nat):Wd:=⟨upd (upd w.H dx (.own x)) x (.ins C dx []),fun b=>if b=x then some (.obj n)else if b=dx then none else w.ow b,w.mu++[x]⟩
theorem Rel.made(R:Rel cl B σ w ρ S)(J:w.H x=none)(I:w.H dx=none)(ne:dx≠x):Rel cl B σ (w.addO x dx (cl c) S.length) ρ (S++[⟨c,[]⟩])/\Fut w (w.addO x dx (cl c) S.length):=by
 have kp:∀b o,w.H b=some o->(w.addO x dx (cl c) S.length).H b=some o/\(w.addO x dx (cl c) S.length).ow b=w.ow b:=fun b o d=>by
  have n1:b≠x:=zal d J;have n2:b≠dx:=zal d I;refine⟨?_,?_⟩
  ·show upd (upd w.H dx _) x _ b=_;rw[zai n1,zai n2];exact d
  ·show(if b=x then _ else if b=dx then _ else w.ow b)=_;rw[if_neg n1,if_neg n2]
 have f:Fut w (w.addO x dx (cl c) S.length):=⟨fun b o d l=>⟨(kp b o d).1,(kp b o d).2.trans l⟩,fun n a h=>by
  show(w.mu++[x])[n]?=some a
  rw[yaZ (yal.mp h).1];exact h⟩
 have j:B.Fr x=none:=by
  cases z:B.Fr x with
  |none=>rfl|some u=>have:=(R.wd.fr x u z).1;rw[J]at this;cases this
 refine⟨⟨⟨fun b o h=>?_,fun b r h=>?_,by show(w.mu++[x]).length=_;rw[yap,yap,R.wd.len];rfl,fun m ob h=>?_⟩,R.len,fun i o e h=>?_⟩,f⟩
 ·have:=kp b o (R.wd.fr b o h).1;exact⟨this.1,this.2.trans (R.wd.fr b o h).2⟩
 ·have h':(if b=x then some (Root.obj S.length)else if b=dx then none else w.ow b)=some r:=h;split at h'
  ·rename_i z;rw[z];exact .inr j
  ·split at h'
   ·cases h'
   ·exact R.wd.own b r h'
 ·by_cases hm:m<S.length
  ·rw[yaZ hm]at h;obtain⟨b,e,y⟩:=R.wd.obj m ob h;exact⟨b,f.mu _ _ e,y.keep f fun b o d _=>kp b o d⟩
  ·have g:m=S.length:=by
    have:=(yal.mp h).1;rw[yap,ybb]at this;omega
   subst g;rw[yaG (yag _),ybw]at h;cases h;refine⟨x,?_,if_pos rfl,dx,[],zan,.nil⟩;show(w.mu++[x])[S.length]?=some x;rw[yaG (by rw[R.wd.len];exact yag _),R.wd.len,ybw];rfl
 ·obtain⟨v,p,y⟩:=R.slots i o e h;exact⟨v,p,y.keep f fun b o d k=>⟨(kp b o d).1,(kp b o d).2.trans k⟩⟩
end
noncomputable def zox:D->Option (Option Int)|.non=>some none|.int i=>some (some i)|_=>none
def zeN:List D->Option (List (Option Int))
 |[]=>some []|d::r=>(zox d).bind fun o=>(zeN r).map (o::·)
def zkb:D->Option NK
 |.tup [.int i,.tup l]=>(zeN l).map fun os=>(i,os)|_=>none
def zbD(k:NK):List (D×D)->Option D
 |[]=>none|(q,d)::r=>if zkb q=some k then some d else zbD k r
def zmy(o:Option Int):zox (oDn o)=some o:=by cases o<;>rfl
theorem zgZ:∀l:List (Option Int),zeN (l.map oDn)=some l
 |[]=>rfl|o::l=>by rw[yav];unfold zeN;rw[zmy,zgZ l];rfl
def zeQ(k:NK):zkb (nkD k)=some k:=by
 show(zeN (k.2.map oDn)).map (fun os=>(k.1,os))=some k;rw[zgZ];rfl
section
variable{cl:Cf}{w:Wd}
theorem zmx:∀{xs:List V}{ds:List D}{os:Z4},Shds cl w xs ds->zeN ds=some os->xs=os.map oV
 |_,_,os,.nil,h=>by cases h;rfl
 |_,_,os,.cons (v:=v) (d:=d) (ds:=ds) r t,h=>by
  unfold zeN at h
  cases h1:zox d with
  |none=>rw[h1]at h;cases h|some o=>
   rw[h1]at h
   cases h2:zeN ds with
   |none=>rw[h2]at h;cases h|some a=>
    rw[h2]at h;cases h;rw[yav,<-zmx t h2]
    cases d<;>simp[zox]at h1<;>subst h1<;>cases r<;>rfl
def zpI(h:Shd cl w v d)(I:zkb d=some k):∃kb,v=.ref kb/\znH w kb k:=by
 unfold zkb at I;split at I
 ·rename_i i l
  cases b:zeN l with
  |none=>rw[b]at I;cases I|some os=>
   rw[b]at I;cases I
   cases h with
   |tup e o r=>
    cases r with
    |cons r1 t=>
     cases t with
     |cons a t=>
      cases t;cases r1
      cases a with
      |tup f c a=>exact⟨_,rfl,_,⟨e,o⟩,by rw[<-zmx a b];exact f,c⟩
 ·cases I
theorem zo1:∀{m:List (NK×V)}{ds:List (D×D)},ShdN cl w m ds->∀k:NK,(m.lookup k=none/\zbD k ds=none)\/∃v d,m.lookup k=some v/\zbD k ds=some d/\Shd cl w v d
 |_,_,.nil,k=>.inl ⟨rfl,rfl⟩|_,_,.cons (k:=k') (v:=v) (d:=d) r t,k=>by
  rw[yaA];unfold zbD;rw[zeQ]
  by_cases e:k'=k
  ·subst e;rw[if_pos rfl,ybn];exact .inr ⟨v,d,rfl,rfl,r⟩
  ·rw[if_neg (fun z=>e (by cases z;rfl)),ya2.mpr (fun z=>e z.symm)];exact zo1 t k
theorem zpT:∀{m:List (NK×V)}{ds:List (D×D)},ShdN cl w m ds->m.length=ds.length
 |_,_,.nil=>rfl|_,_,.cons r t=>by rw[yar,yar,zpT t]
end
noncomputable def zhJ(cn f:Str)(d:D)(S:Sto):Option D:=match d with
 |.ref n=>(match S[n]? with
  |some ob=>if ob.cls=cn then(match ob.fs.lookup f with|~~~d=>some d|_=>none)else none
  |none=>none)
 |_=>none
def ze6(cn f:Str)(fe:Fe):Fe:=fun ρ S=>(fe ρ S).bind fun d S1=>match zhJ cn f d S1 with|some r=>.ok r S1|none=>.bad
noncomputable def zhW(cl:Cf)(cn f:Str):Prop:=Cls cl.K (cl cn)/\zdE cl.K (cl cn) f
noncomputable def zhY(cn f:Str)(d:D)(S:Sto):Option (Nat×Ob×List (D×D)):=match d with
 |.ref n=>(match S[n]? with
  |some ob=>if ob.cls=cn then(match ob.fs.lookup f with|some (true,.dic ds)=>some (n,ob,ds)|_=>none)else none
  |none=>none)
 |_=>none
section
variable{cl:Cf}{cn:Str}{X:Cx}{E:St->XK}{e:Expr}{fe:Fe}{f:Str}{pos:Pos}{B:Base}{σ:St}{w:Wd}{ρ:Env}{S:Sto}
def zgy(R:Rel cl B σ w ρ S)(I:Shd cl w v (.ref n))(J:S[n]?=some ob):∃a dx fs,v=.ref a/\w.mu[n]?=some a/\w.ow a=some (.obj n)/\w.H a=some (.ins (cl ob.cls) dx fs)/\zda cl w n fs ob.fs:=by
 cases I with
 |ref e=>
  obtain⟨h1,dx,fs,h2,b⟩:=R.wd.atObj J e;exact⟨_,dx,fs,rfl,e,h1,h2,b⟩
def zpZ(I:zhW cl cn f)(R:Rel cl B σ w ρ S)(J:Shd cl w v d)(hd:zhJ cn f d S=some r):∃a C dx fs y,v=.ref a/\w.H a=some (.ins C dx fs)/\Cls cl.K C/\zdE cl.K C f/\fs.lookup f=some y/\Shd cl w y r:=by
 unfold zhJ at hd
 cases d with
 |ref n=>
  dsimp only at hd
  cases c:S[n]? with
  |none=>rw[c]at hd;cases hd|some ob=>
   rw[c]at hd;dsimp only at hd;split at hd
   ·rename_i b;split at hd
    ·rename_i d e;cases hd;obtain⟨a,dx,fs,rfl,_,_,g,h⟩:=zgy R J c;obtain⟨v,lv,fr⟩:=h.look e
     rcases fr with⟨_,fr⟩|⟨z,_⟩|⟨z,_⟩
     ·exact⟨a,_,dx,fs,v,rfl,g,b ▸ I.1,b ▸ I.2,lv,fr⟩
     ·cases z
     ·cases z
    ·cases hd
   ·cases hd
 |_=>cases hd
def zs2(I:zhW cl cn f)(kk:X.K=cl.K)(he:PE X e (tE cl E fe))(J:attributeBase e f X.env (eval e X.env)=eval e X.env):PE X (.Attribute e f pos) (tE cl E (ze6 cn f fe)):=by
 refine PE.imp (zeK he J) ?_;rintro σ H Q ⟨B,w,ρ,S,rfl,R,q⟩;refine⟨B,w,ρ,S,rfl,R,?_⟩;unfold ze6 at q
 cases hf:fe ρ S with
 |bad=>rwa[hf]at q|exc c S1=>rwa[hf]at q|ok d S1=>
  rw[hf]at q;intro v g b F1 h1;dsimp only[Out.bind]at q
  cases hd:zhJ cn f d S1 with
  |none=>rw[hd]at q;exact q.elim|some r=>
   rw[hd]at q;obtain⟨a,C,dx,fs,y,rfl,l,k,j,i,h⟩:=zpZ I b h1 hd;rw[kk];exact⟨a,C,dx,fs,y,rfl,l,k,j,i,q y g b F1 h⟩
def znw(I:zhW cl cn f)(R:Rel cl B σ w ρ S)(J:Shd cl w v d)(hd:zhY cn f d S=some (n,ob,ds)):
  ∃a dx fs c xs m,v=.ref a/\S[n]?=some ob/\w.mu[n]?=some a/\w.ow a=some (.obj n)/\w.H a=some (.ins (cl ob.cls) dx fs)/\zda cl w n fs ob.fs/\Cls cl.K (cl ob.cls)/\zdE cl.K (cl ob.cls) f/\fs.lookup f=some (.ref c)/\w.ow c=some (.fld n f)/\w.H c=some (.ext (DN cl.P cl.wo c xs))/\zkB w xs m/\ShdN cl w m ds:=by
 unfold zhY at hd
 cases d with
 |ref k=>
  dsimp only at hd
  cases g:S[k]? with
  |none=>rw[g]at hd;cases hd|some j=>
   rw[g]at hd;dsimp only at hd;split at hd
   ·rename_i b;split at hd
    ·rename_i q l;cases hd;obtain⟨a,dx,fs,rfl,h,how,o,i⟩:=zgy R J g;obtain⟨v,lv,fr⟩:=i.look l
     rcases fr with⟨z,_⟩|⟨_,c,xs,m,p,rfl,c1,t,s,r,e⟩|⟨_,d0,z,_⟩
     ·cases z
     ·cases e;exact⟨a,dx,fs,c,xs,m,rfl,g,h,how,o,i,b ▸ I.1,b ▸ I.2,lv,c1,t,s,r⟩
     ·cases z
    ·cases hd
   ·cases hd
 |_=>cases hd
end
end S2
namespace L2
open PySem PySem.Spec PyProof.Rows
section
variable{X:Cx}
noncomputable def zy8(ta:TA):TE:=fun σ H Q=>ta σ H fun vs H1=>∃j:Int,vs=[.int j]/\0<=j/\j<=1000/\∀p,H1 p=none->Q (.ref p) (upd H1 p (.rng 0 j))
def ztx{a:Expr}{ta:TA}{p pos:Pos}(J:Gl X "range")(hm:X.mg "range"=none)(U:PA X [a] ta)(hs:autoParam (starEach [a] X.env=[(false,eval a X.env)]) yAW):PE X (.Call (.Name "range" p) [a] [] pos) (zy8 ta):=by
 intro pins s σ H Q I h;refine Call_ (zfs I J hm boot_range (ya8 (thn (U pos pins s σ H _ I h) fun us s1 ⟨vs,H1,b,r1,d⟩=>?_) hs rfl));obtain⟨j,e,g,f,q⟩:=d;subst e
 cases r1 with
 |cons r c=>
  cases c;obtain⟨t,rfl⟩:=r;refine call_range_1 ⟨.ref s1.heap.objs.size,_,b.laid (a:=s1.heap.objs.size) (o:=.rng 0 j) (fun _ _ q=>yac _ q) (yag _) ⟨_,_,_,yaq _ rfl⟩,rfl,q _ (b.hok.fresh (yag _))⟩
theorem zkC:∀(n:Nat) (I:List Value),I.length=n->(∀(i:Nat) (v:Value),I[i]?=some v->∃t,v=.int (i:Int) t)->Vals ((List.range n).map fun(i:Nat)=>V.int (i:Int)) I:=by
 intro n
 induction n with
 |zero=>
  intro I b _;have:I=[]:=ya4 b;subst this;exact .nil
 |succ n c=>
  intro I b h
  have e:I=I.take n++[I[n]]:=by
   have:=List.take_append_drop n I
   have h2:I.drop n=[I[n]]:=by
    rw[ycl (by omega),List.drop_of_length_le (by omega)]
   rw[h2]at this;exact this.symm
  rw[e,ybS,ybC];refine(c (I.take n) (by rw[ybF];omega) fun i v a=>?_).append (.cons ?_ .nil)
  ·have hi:i<n:=by
    have:=(yal.mp a).1;rw[ybF]at this;omega
   rw[ycH,if_pos hi]at a;exact h i v a
  ·exact h n I[n] (yad (by omega))
theorem zhR(J:X.calm=true):zeC X (.type "list") (fun xs H Q=>∃(p:Addr) (n:Nat),xs=[.ref p]/\H p=some (.rng 0 (n:Int))/\n<=1000/\∀l,H l=none->Q (.ref l) (upd H l (.lst ((List.range n).map fun(i:Nat)=>V.int (i:Int))))):=by
 intro pins s σ H xs us Q I r h;obtain⟨p,n,rfl,d,f,q⟩:=h;obtain⟨u,rfl,a⟩:=zh2 r;cases a;obtain⟨t,u,v,c⟩:=I.hok p _ d;refine call_list_range (n:=n) (I.ok.hd J) (show IsRange s.heap p 0 (n:Int) 1 t u v from c) (small_one (by omega) (by omega) (by omega) (by omega)) (by rw[rangeSize_one];split<;>omega) (by omega) fun h' tk acc c' kp e hi=>?_
 refine⟨.ref s.heap.objs.size,_,I.laid (t':=tk) kp (yag _) (show zbJ X.prog X.w _ h' _ (.lst _)from⟨?_,acc.toList,c',zkC n acc.toList ?_ ?_,by simpa using e⟩),rfl,q _ (I.hok.fresh (yag _))⟩
 ·rw[yaf,ybo];exact yak f (by decide)
 ·have:=hi.1;simpa using this
 ·intro i v b;have:=hi.2 i v (by simpa using b);simpa using this
end
end L2
namespace S2
open PySem PySem.Spec PyProof.Rows L2
def zpS(cn f:Str)(fa fo:Fe):Fe:=fun ρ S=>(fa ρ S).bind fun a S1=>(fo ρ S1).bind fun d S2=>match zkb a,zhY cn f d S2 with
 |some k,some (_,_,ds)=>.ok (.bl (zbD k ds).isNone) S2|_,_=>.bad
noncomputable def zlo(ρ:Env)(i:Nat):Option NK:=match ρ[i]? with|some (~~~a)=>zkb a|_=>none
def zla(cn f:Str)(fo:Fe)(i:Nat):Fe:=fun ρ S=>(fo ρ S).bind fun d S1=>match zlo ρ i,zhY cn f d S1 with
 |some k,some (_,_,ds)=>(match zbD k ds with|some r=>.ok r S1|none=>.bad)
 |_,_=>.bad
def zkN(cn f:Str)(fo:Fe)(i:Nat)(fe:Fe):Fs:=fun ρ S=>match fe ρ S with
 |.bad=>.bad|.exc c S1=>.ex c ρ S1|.ok r S1=>(match fo ρ S1 with
  |.bad=>.bad|.exc c S2=>.ex c ρ S2|.ok d S2=>(match zlo ρ i,zhY cn f d S2 with
   |some k,some (n,ob,ds)=>if(zbD k ds).isNone&&decide (ds.length<=1000000)&&zdQ ob then .nx ρ (S2.set n (ob.put f true (.dic (ds++[(nkD k,r)]))))else .bad
   |_,_=>.bad))
def zfb(cn f:Str)(fo fe:Fe):Fs:=fun ρ S=>match fe ρ S with
 |.bad=>.bad|.exc c S1=>.ex c ρ S1|.ok r S1=>(match fo ρ S1 with
  |.bad=>.bad|.exc c S2=>.ex c ρ S2|.ok (.ref n) S2=>(match S2[n]? with
   |some ob=>if decide (ob.cls=cn)&&decide (ob.fs.length<1000)then .nx ρ (S2.set n (ob.put f false r))else .bad
   |none=>.bad)
  |.ok _ _=>.bad)
def zkO(cn f:Str)(i:Nat):Fs:=fun ρ S=>match ρ[i]? with
 |some (~~~.ref n)=>(match S[n]? with
   |some ob=>if decide (ob.cls=cn)&&decide (ob.fs.length<1000)then .nx ρ (S.set n (ob.put f true (.dic [])))else .bad
   |none=>.bad)
 |_=>.bad
noncomputable def zbT(c m:Str)(d:D)(S:Sto):Bool:=match d with
 |.ref n=>(match S[n]? with|some ob=>decide (ob.cls=c)&&(ob.fs.lookup m).isNone|none=>false)
 |_=>false
def zaE(c m:Str)(G:List D->Sto->Out D)(fo:Fe)(fs:List Fe):Fe:=fun ρ S=>(fo ρ S).bind fun d S1=>if zbT c m d S1 then(zap fs ρ S1).bind fun ds S2=>G (d::ds) S2 else .bad
def eMk(c:Str)(I:List D)(G:List D->Sto->Out D)(fs:List Fe):Fe:=fun ρ S=>(zap fs ρ S).bind fun ds S1=>(G (.ref S1.length::(ds++I)) (S1++[⟨c,[]⟩])).bind fun r S2=>match r with|.non=>.ok (.ref S1.length) S2|_=>.bad
structure Same'(cl:Cf)(X:Cx):Prop where
 kk:X.K=cl.K
 pp:X.prog=cl.P
 ww:X.w=cl.wo
section
variable{cl:Cf}{cn:Str}{X:Cx}{E:St->XK}{a o e:Expr}{fa fo fe:Fe}{f:Str}{pos apos:Pos}{own:Bool}
def zt2(I:Same' cl X)(J:zhW cl cn f)(σ:St)(H:Hp)(Q:VK)(q:tE cl E (zpS cn f fa fo) σ H Q):
  tOp (fun x y H Q=>∃kb a k xs m,x=.ref kb/\y=.ref a/\zjC H kb k/\H a=some (.ext (DN X.prog X.w a xs))/\zpf H xs m/\Q (.bl (m.lookup k).isNone) H) (tE cl E fa) (zxs X.K (tE cl E fo) f) σ H Q:=by
 obtain⟨B,w,ρ,S,rfl,R,q⟩:=q;refine⟨B,w,ρ,S,rfl,R,?_⟩;unfold zpS at q
 cases hf:fa ρ S with
 |bad=>rwa[hf]at q|exc c S1=>rwa[hf]at q|ok p S1=>
  rw[hf]at q;intro v j s F1 h1;refine⟨B,j,ρ,S1,rfl,s,?_⟩;dsimp only[Out.bind]at q
  cases g:fo ρ S1 with
  |bad=>rwa[g]at q|exc c S2=>rw[g]at q;exact fun e R2 F2=>q e R2 (F1.trans F2)|ok d S2=>
   rw[g]at q;intro y e R2 F2 h2;dsimp only at q
   cases b:zkb p with
   |none=>rw[b]at q;exact q.elim|some k=>
    cases hd:zhY cn f d S2 with
    |none=>rw[b,hd]at q;exact q.elim|some t=>
     obtain⟨n,ob,ds⟩:=t;rw[b,hd]at q;dsimp only at q;obtain⟨a,dx,fs,c,xs,m,rfl,_,_,_,o,_,c1,r,lv,_,l,he,hs⟩:=znw J R2 h2 hd;obtain⟨kb,rfl,ks⟩:=zpI (h1.up F2) b;rw[I.kk];refine⟨a,_,dx,fs,_,rfl,o,c1,r,lv,kb,c,k,xs,m,rfl,rfl,ks.at,by rw[I.pp,I.ww];exact l,he.ents,?_⟩
     have:(m.lookup k).isNone=(zbD k ds).isNone:=by
      rcases zo1 hs k with⟨i,h⟩|⟨_,_,i,h,_⟩<;>rw[i,h]<;>rfl
     rw[this];exact q _ e R2 (F1.trans F2) (.bl _)
def zsZ(J:X.A.units+16<cLine)(I:Same' cl X)(U:zhW cl cn f)(ha:PE X a (tE cl E fa))(ho:PE X o (tE cl E fo))(hb:attributeBase o f X.env (eval o X.env)=eval o X.env)(hm:behindInMarks .NotIn (.Attribute o f apos)=false):PE X (.Compare a [.NotIn] [.Attribute o f apos] pos) (tE cl E (zpS cn f fa fo)):=
 PE.imp (zjh (zpB J) ha (zeK ho hb) hm) (zt2 I U)
def zsB(J:X.A.units+16<cLine)(I:Same' cl X)(U:zhW cl cn f)(ha:PE X a (tE cl E fa))(ho:PE X o (tE cl E fo))(hb:attributeBase o f X.env (eval o X.env)=eval o X.env)(hm:behindInMarks .NotIn (.Attribute o f apos)=false):PT X (.Compare a [.NotIn] [.Attribute o f apos] pos) (tTr cl E (zpS cn f fa fo)):=
 PT.imp (zjf (zpB J) ha (zeK ho hb) hm) fun _ _ _ q=>zt2 I U _ _ _ (zh6 q)
def zmT(R:Rel cl B σ w ρ S)(h:zlo ρ i=some k):∃kb,σ[i]?=some (some (.ref kb))/\znH w kb k:=by
 unfold zlo at h;split at h
 ·rename_i a hi;obtain⟨v,e,r⟩:=R.slots i false a hi;obtain⟨kb,rfl,ks⟩:=zpI r h;exact⟨kb,e,ks⟩
 ·cases h
def zqF(hN:X.N[i]?=some x)(U:Vis X.env.scope x)(hd:(x==("__debug__":Str))=false)(J:(x==("__classdict__":Str))=false)(hu:X.A.units+16<cLine)(I:Same' cl X)(hk:zhW cl cn f)(ho:PE X o (tE cl E fo))(hb:attributeBase o f X.env (eval o X.env)=eval o X.env)(hs:zhV (.Name x p)):PE X (.Subscript (.Attribute o f apos) (.Name x p) pos) (tE cl E (zla cn f fo i)):=by
 refine PE.imp (ztA (zun hu) (zeK ho hb) (za0 hN U hd J) hs) ?_;rintro σ H Q ⟨B,w,ρ,S,rfl,R,q⟩;refine⟨B,w,ρ,S,rfl,R,?_⟩;unfold zla at q
 cases hf:fo ρ S with
 |bad=>rwa[hf]at q|exc c S1=>rwa[hf]at q|ok d S1=>
  rw[hf]at q;intro v l j F1 h1;dsimp only[Out.bind]at q
  cases e:zlo ρ i with
  |none=>rw[e]at q;exact q.elim|some k=>
   cases hd:zhY cn f d S1 with
   |none=>rw[e,hd]at q;exact q.elim|some t=>
    obtain⟨n,ob,ds⟩:=t;rw[e,hd]at q;dsimp only at q;obtain⟨a,dx,fs,c,xs,m,rfl,_,_,_,u,_,c1,C,lv,_,s,he,hs⟩:=znw hk j h1 hd;obtain⟨kb,h,ks⟩:=zmT j e
    cases g:zbD k ds with
    |none=>rw[g]at q;exact q.elim|some r=>
     rw[g]at q
     rcases zo1 hs k with⟨_,b⟩|⟨y,r',z,b,sh⟩
     ·rw[g]at b;cases b
     ·rw[g]at b;cases b;rw[I.kk];exact⟨a,_,dx,fs,_,rfl,u,c1,C,lv,_,h,c,kb,k,xs,m,y,rfl,rfl,ks.at,by rw[I.pp,I.ww];exact s,he.ents,z,q _ l j F1 sh⟩
def zqm(hN:X.N[i]?=some x)(hv:Vis X.env.scope x)(hd:(x==("__debug__":Str))=false)(a3:(x==("__classdict__":Str))=false)(hu:X.A.units+16<cLine)(I:Same' cl X)(hk:zhW cl cn f)(ho:PE X o (tE cl E fo))(hb:attributeBase o f X.env (eval o X.env)=eval o X.env)(he:PE X e (tE cl E fe))
  (U:swapsWithSole [.Subscript (.Attribute o f apos) (.Name x p) p3] e pos.line X.env=pure false) (J:swappedStores [.Subscript (.Attribute o f apos) (.Name x p) p3] e X.env=pure none)
  (ha:∀v,assign (.Subscript (.Attribute o f apos) (.Name x p) p3) X.env v=(do
   let ov ← holding [v] (eval (.Attribute o f apos) X.env)
   let iv ← holding [v,ov] (eval (.Name x p) X.env)
   standAt p3
   holding [v,ov,iv] (setItem ov iv v)
   release [v,ov,iv] [])):PS X (.Assign [.Subscript (.Attribute o f apos) (.Name x p) p3] e pos) (tS cl E own (zkN cn f fo i fe)):=by
 refine PS.imp (zmi he (zpw (zeK ho hb) (za0 hN hv hd a3) (zqx hu) ha) U J rfl) ?_;rintro De σ H ⟨B,w,ρ,S,rfl,R,q⟩;refine⟨B,w,ρ,S,rfl,R,?_⟩;unfold zkN at q
 cases hf:fe ρ S with
 |bad=>rwa[hf]at q|exc c S1=>rw[hf]at q;exact fun w' z C=>q σ w' z C|ok r S1=>
  rw[hf]at q;intro v M R1 F1 h1;dsimp only at q;refine⟨B,M,ρ,S1,rfl,R1,?_⟩
  cases b:fo ρ S1 with
  |bad=>rwa[b]at q|exc c S2=>rw[b]at q;exact fun w' z C=>q σ w' z (F1.trans C)|ok d S2=>
   rw[b]at q;intro y w2 R2 F2 h2;dsimp only at q
   cases h:zlo ρ i with
   |none=>rw[h]at q;exact q.elim|some k=>
    cases hd:zhY cn f d S2 with
    |none=>rw[h,hd]at q;exact q.elim|some t=>
     obtain⟨n,ob,ds⟩:=t;rw[h,hd]at q;dsimp only at q;split at q
     ·rename_i g;rw[yab,yab]at g;obtain⟨⟨D,L⟩,K⟩:=g;obtain⟨a,dx,fs,c,xs,m,rfl,Q,l,how,G,T,c1,Y,lv,P,F,he,hs⟩:=znw hk R2 h2 hd;obtain⟨kb,s,ks⟩:=zmT R2 h
      have j:m.lookup k=none:=by
       rcases zo1 hs k with⟨W,_⟩|⟨_,_,_,V,_⟩
       ·exact W
       ·rw[V]at D;cases D
      rw[I.kk];refine⟨a,_,dx,fs,_,rfl,G,c1,Y,lv,_,s,c,kb,k,xs,m,rfl,rfl,ks.at,by rw[I.pp,I.ww];exact F,he.ents,j,by rw[zpT hs];exact yai L,fun u O=>?_⟩;obtain⟨Z,F3⟩:=R2.setd Q l how G T lv P F he hs ks O (h1.up F2) K;rw[I.pp,I.ww];exact q σ _ Z (F1.trans (F2.trans F3))
     ·exact q.elim
def zqn(J:Same' cl X)(I:zhW cl cn f)(ho:PE X o (tE cl E fo))(he:PE X e (tE cl E fe))(hs:swapsWith e (some (.Attribute o f apos)) pos.line X.env=pure false):PS X (.Assign [.Attribute o f apos] e pos) (tS cl E own (zfb cn f fo fe)):=by
 refine PS.imp (zmh ho he hs) ?_;rintro De σ H ⟨B,w,ρ,S,rfl,R,q⟩;refine⟨B,w,ρ,S,rfl,R,?_⟩;unfold zfb at q
 cases hf:fe ρ S with
 |bad=>rwa[hf]at q|exc c S1=>rw[hf]at q;exact fun w' j k=>q σ w' j k|ok r S1=>
  rw[hf]at q;intro v p t F1 h1;dsimp only at q;refine⟨B,p,ρ,S1,rfl,t,?_⟩
  cases g:fo ρ S1 with
  |bad=>rwa[g]at q|exc c S2=>rw[g]at q;exact fun w' j k=>q σ w' j (F1.trans k)|ok d S2=>
   rw[g]at q;intro y u R2 F2 h2
   cases d with
   |ref n=>
    dsimp only at q
    cases h:S2[n]? with
    |none=>rw[h]at q;exact q.elim|some ob=>
     rw[h]at q;dsimp only at q;split at q
     ·rename_i b;rw[yab]at b;obtain⟨a,dx,fs,rfl,i,how,l,m⟩:=zgy R2 h2 h;rw[J.kk];refine⟨a,_,dx,fs,rfl,l,yai b.1 ▸ I.1,yai b.1 ▸ I.2,by rw[m.len];exact yai b.2,?_⟩;obtain⟨s,F3⟩:=R2.setf (f:=f) h i how l m (h1.up F2);exact q σ _ s (F1.trans (F2.trans F3))
     ·exact q.elim
   |_=>exact q.elim
def zqp(hN:X.N[i]?=some x)(hv:Vis X.env.scope x)(hd:(x==("__debug__":Str))=false)(J:(x==("__classdict__":Str))=false)(I:Same' cl X)(U:zhW cl cn f)(hs:swapsWith (.Dict [] [] p) (some (.Attribute (.Name x p2) f apos)) pos.line X.env=pure false):PS X (.Assign [.Attribute (.Name x p2) f apos] (.Dict [] [] p) pos) (tS cl E own (zkO cn f i)):=by
 refine PS.imp (zmh (za0 hN hv hd J) zqY hs) ?_;rintro De σ H ⟨B,w,ρ,S,rfl,R,q⟩;intro pd c;unfold zkO at q;split at q
 ·rename_i n hi;obtain⟨v,ev,j⟩:=R.slots i false _ hi
  cases d:S[n]? with
  |none=>rw[d]at q;exact q.elim|some ob=>
   rw[d]at q;dsimp only at q;split at q
   ·rename_i b;rw[yab]at b;obtain⟨a,dx,fs,rfl,e,how,g,h⟩:=zgy R j d;rw[I.kk];refine⟨_,ev,a,_,dx,fs,rfl,?_,yai b.1 ▸ U.1,yai b.1 ▸ U.2,by rw[h.len];exact yai b.2,?_⟩
    ·rw[zai (zal g c)];exact g
    ·obtain⟨k,F3⟩:=R.newf (f:=f) d e how g h c;rw[I.pp,I.ww];exact q σ _ k F3
   ·exact q.elim
 ·exact q.elim
end
noncomputable def zh7(C:Addr)(m:Str)(sp:Sp)(dvs:List V)(E:St->XK)(ta:TE)(t:TA):TE:=fun σ H Q=>ta σ H fun x H1=>∃a dx fs,x=.ref a/\H1 a=some (.ins C dx fs)/\fs.lookup m=none ∧
 t σ H1 fun vs H2=>sp (x::(vs++dvs)) H2 Q (E σ)
noncomputable def zpm(C:Addr)(sp:Sp)(dvs:List V)(E:St->XK)(t:TA):TE:=fun σ H Q=>t σ H fun vs H1=>∀x dx,H1 x=none->H1 dx=none->dx≠x →
 sp (.ref x::(vs++dvs)) (upd (upd H1 dx (.own x)) x (.ins C dx [])) (fun v H2=>v=.non/\Q (.ref x) H2) (E σ)
section
variable{X:Cx}{CX:CXT}{k:Nat}{f C:Addr}{fd:FuncData}{ps:List Str}{sp:Sp}{dvs:List V}{ds:List Value}{E:St->XK}{x m:Str}{p pos apos:Pos}{e o:Expr}{es:List Expr}{ta:TE}{t:TA}
def zoo(he:PE X o ta)(c:Cls X.K C)(hm:Meth X.K C m f)(F:FnOk X.prog X.w X.K X.mg X.base CX k f fd ps sp)(hr:Room k X.A)(hb:zbz X.K fd ps ds)(hd:Vals dvs ds)(U:zdy CX X E)(ha:PA X (e::es) t)
  (J:starEach (e::es) X.env=(false,eval e X.env)::starEach es X.env) (ah:(backTo pos (starEach es X.env)).any (·.1)=false)
  (ht:eval (.Call (.Attribute o m apos) (e::es) [] pos) X.env=(do
   let ov ← eval o X.env
   standAt apos.atName
   let (f,first) ← holding [ov] (getMethod ov m pl)
   callWith pos f first (backTo pos (starEach (e::es) X.env)) (backToKw pos (keywordEach [] X.env)))):
  PE X (.Call (.Attribute o m apos) (e::es) [] pos) (zh7 C m sp dvs E ta t):=by
 intro pins s σ H Q I h;refine PySem.W.methodCall_KW (pl:=pl) (thn (he pins s σ H _ I h) fun u s1 ⟨x,H1,d,g,a,dx,fs,ex,j,l,q⟩=>?_) ht;subst ex;obtain rfl:u=Value.ref a:=g;refine zg5 d j c hm l ?_;refine ycz (first:=[.ref a]) (h₀:=X.base) I.ok.mod.kin hm.kp (thn (ha pos pins s1 σ H1 _ d q) fun us s2 ⟨vs,H2,b,r,i⟩=>⟨b.kIn,?_⟩) J ah;exact zhq (us:=.ref a::us) (vs:=.ref a::vs) F hr hb hd U b (.cons rfl r) i
def zmr(he:PE X o ta)(c:Cls X.K C)(hm:Meth X.K C m f)(F:FnOk X.prog X.w X.K X.mg X.base CX k f fd ps sp)(U:Room k X.A)(hb:zbz X.K fd ps ds)(hd:Vals dvs ds)(J:zdy CX X E)
  (ht:eval (.Call (.Attribute o m apos) [] [] pos) X.env=(do
   let ov ← eval o X.env
   standAt apos.atName
   let (f,first) ← holding [ov] (getMethod ov m pl)
   callWith pos f first (backTo pos (starEach [] X.env)) (backToKw pos (keywordEach [] X.env)))):
  PE X (.Call (.Attribute o m apos) [] [] pos) (zh7 C m sp dvs E ta zll):=by
 intro pins s σ H Q I h;refine PySem.W.methodCall_KW (pl:=pl) (thn (he pins s σ H _ I h) fun u s1 ⟨x,H1,b,d,a,dx,fs,ex,e,l,q⟩=>?_) ht;subst ex;obtain rfl:u=Value.ref a:=d;refine zg5 b e c hm l ?_;exact PySem.W.callWith_K0 (first:=[.ref a]) b.kIn hm.kp (zhq (us:=[.ref a]) (vs:=[.ref a]) F U hb hd J b (.cons rfl .nil) q)
def zl1(M:Mk X.K C f)(F:FnOk X.prog X.w X.K X.mg X.base CX k f fd ps sp)(U:Room (k+1) X.A)(hb:zbz X.K fd ps ds)(hd:Vals dvs ds)
  (J:zdy CX X E) (I:Inv X pins σ H s) (r:Vals vs us)
  (h:∀x dx,H x=none->H dx=none->dx≠x->sp (.ref x::(vs++dvs)) (upd (upd H dx (.own x)) x (.ins C dx [])) (fun v H2=>v=.non/\Q (.ref x) H2) (E σ)):
  wpAny (model X.prog X.w) X.A (call (.ref C) us) (EP X pins σ Q) X.xe s:=by
 have d:=h (s.heap.objs.size+1) s.heap.objs.size (I.hok.fresh (ycp _)) (I.hok.fresh (yag _)) (yaz (yb2 _));have b:=Inv.made (C:=C) I;have c:Vals (V.ref (s.heap.objs.size+1)::(vs++dvs)) (Value.ref (s.heap.objs.size+1)::(us++ds)):=.cons rfl (r.append hd)
 have j:(Value.ref (s.heap.objs.size+1)::us++ds).length=ps.length:=by
  have e:=c.length;rw[F.len _ _ _ _ d]at e;exact e.symm
 refine wpAny_call (zoF (f:=f) I.kIn M.makes M.init (yce.mp M.fn) (ycR (F.run _ X.stack _ _ ⟨Value.ref (s.heap.objs.size+1)::us,[]⟩ (Value.ref (s.heap.objs.size+1)::(us++ds)) _ _ (E σ) (U.make C us [])
  (b.env0.make C us []) (hb _ (Value.ref (s.heap.objs.size+1)::us) b.kIn j) c d) fun r s' a=>?_))
 cases r with
 |error e=>exact J pins σ _ _ e s' b a|ok l=>
  cases l with
  |ret u=>
   obtain⟨v,H',m,g,ev,i⟩:=b.after a;subst ev;exact⟨g,⟨V.ref (s.heap.objs.size+1),H',m,rfl,i⟩⟩
  |next=>exact False.elim a|brk=>exact False.elim a|cont=>exact False.elim a
def zop(M:Mk X.K C f)(F:FnOk X.prog X.w X.K X.mg X.base CX k f fd ps sp)(hr:Room (k+1) X.A)(hg:Gl X x)(hm:X.mg x=some (.ref C))(hb:zbz X.K fd ps ds)(hd:Vals dvs ds)(U:zdy CX X E)
  (ha:PA X (e::es) t) (J:(x==("__debug__":Str))=false) (he:starEach (e::es) X.env=(false,eval e X.env)::starEach es X.env) (ah:(backTo pos (starEach es X.env)).any (·.1)=false):
  PE X (.Call (.Name x p) (e::es) [] pos) (zpm C sp dvs E t):=by
 intro pins s σ H Q I h;refine ybJ (zeo I hg hm ?_ J);refine ycz (h₀:=X.base) I.ok.mod.kin M.kp (thn (ha pos pins s σ H _ I h) fun us s1 ⟨vs,H1,a,r,q⟩=>⟨a.kIn,?_⟩) he ah;exact zl1 M F hr hb hd U a r q
end
section
variable{cl:Cf}{E:St->XK}{fs:List Fe}{fo:Fe}{G:List D->Sto->Out D}{σ:St}{H:Hp}{Q:VK}{n:Nat}{c m:Str}{ρ:Env}
theorem zeZ:∀{fs:List Fe}{S S1:Sto}{ds:List D},zap fs ρ S=.ok ds S1->ds.length=fs.length
 |[],S,S1,ds,h=>by cases h;rfl
 |f::fs,S,S1,ds,h=>by
  unfold zap at h
  cases h1:f ρ S with
  |bad=>rw[h1]at h;cases h|exc c S2=>rw[h1]at h;cases h|ok d S2=>
   rw[h1]at h;dsimp only[Out.bind]at h
   cases h2:zap fs ρ S2 with
   |bad=>rw[h2]at h;cases h|exc c a=>rw[h2]at h;cases h|ok es a=>rw[h2]at h;cases h;rw[yar,yar,zeZ h2]
def zmJ(R:Rel cl B σ w ρ S)(I:Shd cl w v d)(h:zbT c m d S=true):∃a dx fs,v=.ref a/\w.H a=some (.ins (cl c) dx fs)/\fs.lookup m=none:=by
 unfold zbT at h
 cases d with
 |ref n=>
  dsimp only at h
  cases b:S[n]? with
  |none=>rw[b]at h;cases h|some ob=>
   rw[b]at h;dsimp only at h;rw[yab]at h;obtain⟨a,dx,fs,rfl,_,_,f,g⟩:=zgy R I b;have e:=yai h.1;subst e;exact⟨a,dx,fs,rfl,f,g.miss (by simpa using h.2)⟩
 |_=>cases h
def zt6(q:tE cl E (zaE c m G fo fs) σ H Q)(I:fs.length+1=n):zh7 (cl c) m (zgA cl n false G) [] E (tE cl E fo) (tAs cl E fs) σ H Q:=by
 obtain⟨B,w,ρ,S,rfl,R,q⟩:=q;refine⟨B,w,ρ,S,rfl,R,?_⟩;unfold zaE at q
 cases e:fo ρ S with
 |bad=>rwa[e]at q|exc c S1=>rwa[e]at q|ok d j=>
 rw[e]at q;intro v o l F0 h0;dsimp only[Out.bind]at q
 cases hok:zbT c m d j with
 |false=>rw[hok]at q;exact q.elim|true=>
 rw[hok,if_pos rfl]at q;obtain⟨a,dx,fs',rfl,s,hm⟩:=zmJ l h0 hok;refine⟨a,dx,fs',rfl,s,hm,B,o,ρ,j,rfl,l,?_⟩
 cases hf:zap fs ρ j with
 |bad=>rwa[hf]at q|exc c S1=>rw[hf]at q;exact fun b f F1=>q b f (F0.trans F1)|ok ds S1=>
  rw[hf]at q;intro vs b f F1 h1;dsimp only at q;refine⟨?_,b.base,b.inn,d::ds,S1,rfl,f.wd.enter,?_,?_⟩
  ·rw[ya3,yar,h1.length,zeZ hf];exact I
  ·rw[ya3];exact .cons ((h0.up F1).up (zcW b)) (h1.up (zcW b))
  cases i:G (d::ds) S1 with
  |bad=>rwa[i]at q|exc c S2=>
   rw[i]at q;intro h g F2;obtain⟨k,F3⟩:=f.leave g F2;exact q (b.back h) k (F0.trans (F1.trans F3))
  |ok r S2=>
   rw[i]at q;intro v h g F2 p;obtain⟨k,F3⟩:=f.leave g F2;exact q v (b.back h) k (F0.trans (F1.trans F3)) (Shd.up (zea g) p)
def zt5(q:tN cl E (zaE c m G fo fs) σ H Q)(I:fs.length+1=n):zh7 (cl c) m (zgA cl n true G) [] E (tE cl E fo) (tAs cl E fs) σ H Q:=by
 obtain⟨B,w,ρ,S,rfl,R,q⟩:=q;refine⟨B,w,ρ,S,rfl,R,?_⟩;unfold zaE at q
 cases g:fo ρ S with
 |bad=>rwa[g]at q|exc c S1=>rwa[g]at q|ok d l=>
 rw[g]at q;intro v x s F0 h0;dsimp only[Out.bind]at q
 cases hok:zbT c m d l with
 |false=>rw[hok]at q;exact q.elim|true=>
 rw[hok,if_pos rfl]at q;obtain⟨a,dx,fs',rfl,C,hm⟩:=zmJ s h0 hok;refine⟨a,dx,fs',rfl,C,hm,B,x,ρ,l,rfl,s,?_⟩
 cases hf:zap fs ρ l with
 |bad=>rwa[hf]at q|exc c S1=>rw[hf]at q;exact fun b h F1=>q b h (F0.trans F1)|ok ds S1=>
  rw[hf]at q;intro vs b h F1 h1;dsimp only at q;refine⟨?_,b.base,b.inn,d::ds,S1,rfl,h.wd.enter,?_,?_⟩
  ·rw[ya3,yar,h1.length,zeZ hf];exact I
  ·rw[ya3];exact .cons ((h0.up F1).up (zcW b)) (h1.up (zcW b))
  cases k:G (d::ds) S1 with
  |bad=>rwa[k]at q|exc c S2=>
   rw[k]at q;intro e j F2;obtain⟨p,F3⟩:=h.leave j F2;exact q (b.back e) p (F0.trans (F1.trans F3))
  |ok r S2=>
   rw[k]at q;intro v e j F2 y;obtain⟨p,F3⟩:=h.leave j F2;obtain⟨a,o,i,rfl,k1,k2,t⟩:=y;have f:b.base.Fr a=none:=(j.own a _ k1).elim (fun z=>by cases z) fun z=>z
   have k3:(b.back e).ow a=some .far:=by
    show(if(b.base.Fr a).isSome=true then b.ow a else Root.out (e.ow a))=_;rw[f,k1];rfl
   have A:B.Fr a=none:=by
    cases z:B.Fr a with
    |none=>rfl|some u=>rw[zeA h.wd z]at f;cases f
   have hd:=zjn (w:=b.back e) (a:=a) (by rw[k3];exact yaE _);have:=q a o ((b.back e).del a) (p.del k3 A) (F0.trans (F1.trans (F3.trans hd))) (if_pos rfl) ((t.up (zea j)).up hd);rwa[zlv (w:=b.back e) k2]at this
def zzx(J:∀w,Shds cl w dvs I)(q:tE cl E (eMk c I G fs) σ H Q)(U:fs.length+I.length+1=n):zpm (cl c) (zgA cl n false G) dvs E (tAs cl E fs) σ H Q:=by
 obtain⟨B,w,ρ,S,rfl,R,q⟩:=q;refine⟨B,w,ρ,S,rfl,R,?_⟩;unfold eMk at q
 cases hf:zap fs ρ S with
 |bad=>rwa[hf]at q|exc c S1=>rwa[hf]at q|ok ds S1=>
  rw[hf]at q;intro vs a i F1 h1;dsimp only[Out.bind]at q;intro x dx k f ne;obtain⟨R2,F2⟩:=i.made (c:=c) k f ne
  have b:(a.addO x dx (cl c) S1.length).mu[S1.length]?=some x:=by
   show(a.mu++[x])[S1.length]?=some x;rw[yaG (by rw[i.wd.len];exact yag _),i.wd.len,ybw];rfl
  refine⟨?_,(a.addO x dx (cl c) S1.length).base,(a.addO x dx (cl c) S1.length).inn,.ref S1.length::(ds++I),S1++[⟨c,[]⟩],rfl,R2.wd.enter,?_,?_⟩
  ·rw[yar,yap,h1.length,zeZ hf,(J a).length];exact U
  ·exact .cons (.ref b) (((h1.up F2).up (zcW _)).append (J _))
  cases e:G (.ref S1.length::(ds++I)) (S1++[⟨c,[]⟩])with
  |bad=>rwa[e]at q|exc c S2=>
   rw[e]at q;intro d g F3;obtain⟨h,F4⟩:=R2.leave g F3;exact q ((a.addO x dx _ S1.length).back d) h (F1.trans (F2.trans F4))
  |ok r S2=>
   rw[e]at q;intro v d g F3 j
   cases r with
   |non=>
    obtain⟨h,F4⟩:=R2.leave g F3;refine⟨by cases j;rfl,q (.ref x) ((a.addO x dx _ S1.length).back d) h (F1.trans (F2.trans F4)) (.ref (F4.mu _ _ b))⟩
   |_=>exact q.elim
end
inductive TyS(H:Hp):V->String->Prop
 |non:TyS H .non "NoneType"
 |bl (b:Bool):TyS H (.bl b) "bool"
 |int (i:Int):TyS H (.int i) "int"
 |str (x:Str):TyS H (.str x) "str"
 |lst {a:Addr}{xs:List V}:H a=some (.lst xs)->TyS H (.ref a) "list"
 |tup {a:Addr}{xs:List V}:H a=some (.tup xs)->TyS H (.ref a) "tuple"
theorem TyS.ty{K:PySem.W.Frag}{H:Hp}{v:V}{T:String}:TyS H v T->TyOf K H v (.type T)
 |.non=>.non|.bl b=>.bl b|.int i=>.int i|.str x=>.str x|.lst e=>.lst e|.tup e=>.tup e
theorem zlt:∀{cs:List String}{I:List Value},Vals (cs.map V.ty) I->I=cs.map Value.type
 |[],_,.nil=>rfl|c::cs,_,.cons r t=>by
  rw[yav,zlt t];cases (show _=Value.type c from r);rfl
section
variable{X:Cx}
def ziR:zeC X (.builtin "isinstance") (fun xs H Q=>∃(x:V) (T:String) (p:Addr) (cs:List String) (k:Bool),xs=[x,.ref p]/\H p=some (.tup (cs.map V.ty))/\TyS H x T/\PySem.W.kitAny X.K (.type T) (cs.map Value.type)=some k/\Q (.bl k) H):=by
 intro pins s σ H xs us Q I r h;obtain⟨x,T,p,cs,k,rfl,v,ty,e,q⟩:=h
 cases r with
 |cons r1 f=>
  cases f with
  |cons j g=>
   cases g;cases (show _=Value.ref p from j);obtain⟨_,u,d,o,h1,h2,n,A⟩:=(show zbJ X.prog X.w H s.heap p (.tup (cs.map V.ty))from I.hok p _ v);cases zlt d;obtain⟨m,B,b,l⟩:=o;cases (show m=_ from h2);cases (show b=_ from A);have fin:∀tk,EP X pins σ Q (.bool k) {s with toks:=tk}:=fun tk=>⟨.bl k,H,I.tok tk,rfl,q⟩
   cases ty with
   |non=>cases (show _=Value.none from r1);exact ycd PySem.W.kitx_none I.kIn True.intro h1 e (fun z=>nomatch z) fin|bl y=>cases (show _=Value.bool y from r1);exact ycd PySem.W.kitx_bool I.kIn True.intro h1 e (fun z=>nomatch z) fin|int i=>obtain⟨t,z⟩:=(show ∃t,_=Value.int i t from r1);cases z;exact ycd PySem.W.kitx_int I.kIn True.intro h1 e (fun z=>nomatch z) fin|str y=>obtain⟨t,z⟩:=(show ∃t,_=Value.str y t from r1);cases z;exact ycd PySem.W.kitx_str I.kIn True.intro h1 e (fun z=>nomatch z) fin| @lst a xs c=>
    cases (show _=Value.ref a from r1);obtain⟨_,_,n,_,g1⟩:=(show zbJ X.prog X.w H s.heap a (.lst xs)from I.hok a _ c);exact ycd ydj I.kIn ⟨_,g1,rfl⟩ h1 e (fun z=>nomatch z) fin
   | @tup a xs c=>
    cases (show _=Value.ref a from r1);obtain⟨_,_,_,o,g1,g2,_⟩:=(show zbJ X.prog X.w H s.heap a (.tup xs)from I.hok a _ c);exact ycd PySem.W.kitx_tuple I.kIn ⟨o,g1,g2⟩ h1 e (fun z=>nomatch z) fin
def zvN{tg e:Expr}{t u:TI}(h:PI X tg e t)(k:PI X tg e u):PI X tg e (fun σ H R=>t σ H R\/u σ H R):=fun pins s σ H R I q=>q.elim (h pins s σ H R I) (k pins s σ H R I)
end
noncomputable abbrev Rgn:=Addr->Option (Nat×Nat)
noncomputable def cV(A:Rgn):V->Nat|.ref a=>(A a).elim 0 (·.2)|_=>0
noncomputable def Atm:V->Prop|.non=>True|.bl _=>True|.int _=>True|.str _=>True|_=>False
noncomputable def okV(A:Rgn)(n:Nat)(x:V):Prop:=Atm x\/∃a m k,x=.ref a/\A a=some (m,k)/\m<n
structure Reg(A:Rgn)(H:Hp)(B:Nat):Prop where
 at_:∀a m k,A a=some (m,k)->∃xs,(∀x∈xs,okV A m x)/\((H a=some (.lst xs)/\(xs.map (cV A)).sum+1<=k/\xs.length+B<sizeLine)\/(H a=some (.tup xs)/\(xs.map (cV A)).sum<=k))
noncomputable def Off(A:Rgn)(n:Nat)(H H':Hp):Prop:=∀a o,H a=some o->H' a=some o\/∃m k xs ys,A a=some (m,k)/\m<n/\o=.lst xs/\H' a=some (.lst ys)
section
variable{A:Rgn}{H H1 H2:Hp}{n m B C:Nat}
def Off.refl:Off A n H H:=fun _ _ h=>.inl h
def Off.trans(h:Off A n H H1)(k:Off A n H1 H2):Off A n H H2:=fun a o e=>by
 rcases h a o e with z|⟨m,c,xs,ys,g,f,d,i⟩
 ·exact k a o z
 ·rcases k a _ i with y|⟨s,c',l,b,r,q,p,j⟩
  ·exact .inr ⟨m,c,xs,ys,g,f,d,y⟩
  ·exact .inr ⟨m,c,xs,b,g,f,d,j⟩
def Off.mono(h:Off A n H H1)(l:n<=m):Off A m H H1:=fun a o e=>(h a o e).imp id fun⟨i,c,xs,ys,g,f,d,b⟩=>⟨i,c,xs,ys,g,yaj f l,d,b⟩
def Off.new{p:Addr}{o:HO}(h:H p=none):Off A n H (upd H p o):=fun a u e=>.inl (by rw[zai (zal e h)];exact e)
def Reg.mono(h:Reg A H B)(l:C<=B):Reg A H C:=⟨fun a m k e=>by
 obtain⟨xs,o,z⟩:=h.at_ a m k e
 exact⟨xs,o,z.imp (fun⟨d,c,b⟩=>⟨d,c,ycC (Nat.add_le_add_left l _) b⟩) id⟩⟩
def Reg.new{p:Addr}{o:HO}(h:Reg A H B)(f:H p=none):Reg A (upd H p o) B:=⟨fun a m k e=>by
 obtain⟨xs,z,y⟩:=h.at_ a m k e;refine⟨xs,z,y.imp (fun⟨b,c⟩=>⟨?_,c⟩) fun⟨b,c⟩=>⟨?_,c⟩⟩
 ·rw[zai (zal b f)];exact b
 ·rw[zai (zal b f)];exact b⟩
end
noncomputable def ze9(n:Nat):Sp:=fun vs H Q _=>∃v A B d,vs=[v]/\d<n/\Reg A H B/\okV A d v/\cV A v<=B/\∀H',Reg A H' (B-cV A v)->Off A d H H'->Q .non H'
noncomputable def tSp(n:Nat):TS:=fun D σ H=>∃v A B d,1<σ.length/\σ[0]?=some (some v)/\d<n/\Reg A H B/\okV A d v/\cV A v<=B/\∀a H',Reg A H' (B-cV A v)->Off A d H H'->D.nx a H'
section
variable{A:Rgn}{H:Hp}{n m k B:Nat}{a:Addr}{xs:List V}
def Reg.spoilt{H':Hp}(h:Reg A H (B+1))(e:A a=some (m,k))(I:H a=some (.lst xs))(h1:H' a=some (.lst (xs++[V.non]).reverse))(h2:∀b,b≠a->H' b=H b):Reg A H' B:=⟨fun b i c f=>by
 by_cases z:b=a
 ·subst z;rw[e]at f;cases f;obtain⟨ys,o,y⟩:=h.at_ b m k e
  rcases y with⟨d,g,l⟩|⟨d,_⟩
  ·rw[I]at d;cases d;refine⟨_,fun x j=>?_,.inl ⟨h1,?_,?_⟩⟩
   ·rcases ybj.mp (List.mem_reverse.mp j)with z|z
    ·exact o x z
    ·rw[yaI.mp z];exact .inl True.intro
   ·rw[List.map_reverse,List.sum_reverse,ybC,yc8];exact g
   ·rw[List.length_reverse,yap,ybb];omega
  ·rw[I]at d;cases d
 ·obtain⟨ys,o,y⟩:=(h.mono (ycp B)).at_ b i c f
  exact⟨ys,o,by rw[h2 b z];exact y⟩⟩
def Off.same{H':Hp}{u:HO}(h:Off A m H H')(e:A a=some (m,k))(I:H a=some u):H' a=some u:=by
 rcases h a u I with z|⟨i,c,_,_,b,d,_⟩
 ·exact z
 ·rw[e]at b;cases b;exact absurd d (yaW _)
def znM{l:List Nat}{i:Nat}{x:Nat}(h:l[i]?=some x):(l.take (i+1)).sum=(l.take i).sum+x:=by
 rw[ycQ,h,yc8];simp
def zqd{l:List Nat}{i:Nat}:(l.take i).sum<=l.sum:=by
 have:=congrArg List.sum (List.take_append_drop i l);rw[yc8]at this;omega
def zmM{J:It}{u:HO}{σ:St}{D:Ends}{E:XK}(hu:A a=some (m,k))(ha:H a=some u)(hm:m<n)(ho:∀x∈xs,okV A m x)(R:Reg A H B)(hB:(xs.map (cV A)).sum<=B)(hl:1<σ.length)(h0:σ[0]?=some (some (.ref a)))
  (go:∀i H x,H a=some u->xs[i]?=some x->J.go i H) (yl:∀i H x H',H a=some u->J.yld i H x H'->H'=H/\(i<xs.length->xs[i]?=some x)) (st:∀i H,H a=some u->xs.length<=i->J.stop i H)
  (fin:∀I H',1<I.length->I[0]?=some (some (.ref a))->Reg A H' (B-(xs.map (cV A)).sum)->Off A m H H'->D.nx I H'):
  ∃W:Nat->Nat->St->Hp->Prop,(∃m0,W 0 m0 σ H)/\∀i m0 σ H,W i m0 σ H →
   (J.stop i H/\D.nx σ H)\/(J.go i H/\∃N:St->Hp->Prop,(∀I H',N I H'->∃m',m'<m0/\W (i+1) m' I H')/\∀x H',J.yld i H x H'->zgn 1 x σ H' fun U H2=>zlH (zkI (ze9 n) [] E (ze8 (zhX 1) zll)) {D with nx:=N,ct:=N,bk:=D.nx} U H2):=by
 refine⟨fun i m0 I H'=>m0=xs.length-i/\i<=xs.length/\1<I.length/\I[0]?=some (some (.ref a))/\Reg A H' (B-((xs.map (cV A)).take i).sum)/\Off A m H H',⟨_,rfl,yaF _,hl,h0,R,.refl⟩,?_⟩;rintro i m0 f H1 ⟨rfl,hi,g,o,h,j⟩;have b:=j.same hu ha
 by_cases d:i<xs.length
 ·have ex:xs[i]?=some xs[i]:=yad d;generalize xs[i]=x at ex
  have v:(xs.map (cV A))[i]?=some (cV A x):=by rw[yaw,ex];rfl
  have es:=znM v;have C:=zqd (l:=xs.map (cV A)) (i:=i+1);refine .inr ⟨go i H1 x b ex,fun I H'=>1<I.length/\I[0]?=some (some (.ref a))/\Reg A H' (B-((xs.map (cV A)).take (i+1)).sum)/\Off A m H H',fun I H' ⟨t,s,r,q⟩=>⟨_,by omega,rfl,d,t,s,r,q⟩,fun y H' p=>?_⟩;obtain⟨rfl,c⟩:=yl i H1 y H' b p;have c:=c d;rw[ex]at c;cases c;exact⟨x,yam g,x,A,_,m,rfl,hm,h,ho x (ybm ex),by omega,fun H' w z=>⟨by rw[yau];exact g,by rw[yax (by decide)];exact o,w.mono (by omega),j.trans z⟩⟩
 ·have e:(xs.map (cV A)).take i=xs.map (cV A):=yb7 (by rw[yaf];omega);rw[e]at h;exact .inl ⟨st i H1 b (yc4.mp d),fin f H1 g o h j⟩
end
section
variable{K:PySem.W.Frag}{H:Hp}
def zvn{A:Rgn}{v:V}{n:Nat}(h:Atm v):∃T,TyS H v T/\PySem.W.kitAny K (.type T) (["list","tuple"].map Value.type)=some false/\PySem.W.kitOne K (.type T) (.type "dict")=some false/\PySem.W.kitOne K (.type T) (.type "list")=some false:=by
 cases v with
 |non=>exact⟨_,.non,by with_unfolding_all rfl,by with_unfolding_all rfl,by with_unfolding_all rfl⟩
 |bl b=>exact⟨_,.bl b,by with_unfolding_all rfl,by with_unfolding_all rfl,by with_unfolding_all rfl⟩
 |int i=>exact⟨_,.int i,by with_unfolding_all rfl,by with_unfolding_all rfl,by with_unfolding_all rfl⟩
 |str x=>exact⟨_,.str x,by with_unfolding_all rfl,by with_unfolding_all rfl,by with_unfolding_all rfl⟩
 |_=>exact h.elim
def zoN:PySem.W.kitAny K (.type "list") (["list","tuple"].map Value.type)=some true/\PySem.W.kitOne K (.type "list") (.type "dict")=some false/\PySem.W.kitOne K (.type "list") (.type "list")=some true:=⟨by with_unfolding_all rfl,by with_unfolding_all rfl,by with_unfolding_all rfl⟩
def zoM:PySem.W.kitAny K (.type "tuple") (["list","tuple"].map Value.type)=some true/\PySem.W.kitOne K (.type "tuple") (.type "dict")=some false/\PySem.W.kitOne K (.type "tuple") (.type "list")=some false:=⟨by with_unfolding_all rfl,by with_unfolding_all rfl,by with_unfolding_all rfl⟩
end
def zkJ{X:Cx}{CX:CXT}{E:XK}{k n:Nat}{f:Addr}{fd:FuncData}{a5:List Stmt}{q1 q2 q3 q4 q5 q6 q7 q8 q9 a4 a3 U J I r1 r2 r3 r4 r5 s1 s2 s3 s4 s5 s6 s7 s8 s9 t1 t2 t3 t4 t5:Pos}{k0 k1:Nat}
  (nd:X.N.Nodup) (n0:X.N[0]?=some ("_law_thing":Str)) (n1:X.N[1]?=some ("_law_one":Str)) (v0:Vis X.env.scope "_law_thing") (v1:Vis X.env.scope "_law_one") (l1:Loc X.env.scope "_law_one") (f1:X.fn "_law_one"=true\/X.env.scope.names.lookup ("_law_one":Str)=some .local)
  (gi:Gl X "isinstance") (mi:X.mg "isinstance"=none) (gl:Gl X "list") (ml:X.mg "list"=none) (gt:Gl X "tuple") (mt:X.mg "tuple"=none) (gd:Gl X "dict") (md:X.mg "dict"=none)
  (gs:Gl X "_law_spoil") (ms:X.mg "_law_spoil"=some (.ref f)) (kp:PySem.W.keepIn X.K (.ref f)=true) (bd:zbz X.K fd ["_law_thing"] []) (F:FnOk X.prog X.w X.K X.mg X.base CX k f fd ["_law_thing"] (ze9 n)) (rm:Room k X.A) (ps:zi1 CX X E) (cm:X.calm=true) (po:PassesOwn (model X.prog X.w) X.A X.env X.xe)
  (a7:(s6.endLine==s8.line)=true) (a6:(t2.endLine==t3.line)=true):
  PSs X [.If (.Call (.Name "isinstance" q1) [.Name "_law_thing" q2,.Tuple [.Name "list" q3,.Name "tuple" q4] k0 q5] [] q6) [.For (.Name "_law_one" q7) (.Name "_law_thing" q8) [.Expr (.Call (.Name "_law_spoil" q9) [.Name "_law_one" a4] [] a3) U] [] J] [] I,
   .If (.Call (.Name "isinstance" r1) [.Name "_law_thing" r2,.Name "dict" r3] [] r4) a5 [] r5,
   .If (.Call (.Name "isinstance" s1) [.Name "_law_thing" s2,.Name "list" s3] [] s4) [.Expr (.Call (.Attribute (.Name "_law_thing" s5) "append" s6) [.Constant .none k1 s7] [] s8) s9,.Expr (.Call (.Attribute (.Name "_law_thing" t1) "reverse" t2) [] [] t3) t4] [] t5] (tSp (n+1)):=by
 have nm:∀pos,PE X (.Name "_law_thing" pos) (zhX 0):=fun pos=>za0 n0 v0 (by decide) (by decide)
 have L:∀pos,PE X (.Name "_law_one" pos) (zhX 1):=fun pos=>za0 n1 v1 (by decide) (by decide)
 have tl:∀pos,PE X (.Name "list" pos) (tC (.ty "list")):=fun pos=>zdP gl ml (by decide +kernel) rfl
 have tt:∀pos,PE X (.Name "tuple" pos) (tC (.ty "tuple")):=fun pos=>zdP gt mt (by decide +kernel) rfl
 have td:∀pos,PE X (.Name "dict" pos) (tC (.ty "dict")):=fun pos=>zdP gd md (by decide +kernel) rfl
 have w1:=zbA (p:=q1) (pos:=q6) ziR gi mi zcc (zam (nm q2) (zam (zpy (x1:=k0) (pos:=q5) (zam (tl q3) (zam (tt q4) zaQ))) zaQ));have Z:=zbA (p:=r1) (pos:=r4) zb3 gi mi zcc (zam (nm r2) (zam (td r3) zaQ));have Y:=zbA (p:=s1) (pos:=s4) zb3 gi mi zcc (zam (nm s2) (zam (tl s3) zaQ));have c1:=zhx (p:=q9) (pos:=a3) (dvs:=[]) F rm gs ms kp bd .nil ps (zam (L a4) zaQ);have fo:=zpt (pos:=J) (tg:=.Name "_law_one" q7) po cm (zvN (zhv (nm q8)) (zmo (nm q8))) (zhw nd n1 l1 f1) (zdN (zcU (pos:=U) c1));have ap:=zcU (pos:=s9) (zkT (es:=[]) (apos:=s6) (cpos:=s8) yaY ybs ybt zdR (nm s5) (zam (zmq (j:=k1) (pos:=s7)) zaQ) (aa:=a7));have rv:=zcU (pos:=t4) (zmu (apos:=t2) (cpos:=t3) yaY PySem.F.slot_list_reverse PySem.F.type_list_reverse zkX (nm t1) (aa:=a6));refine PSs.imp (zb7 (zjg (pos:=I) (zf5 w1) (zdN fo) zen) (zb7 (zjg (pos:=r5) (zf5 Z) (zir (sts:=a5)) zen) (zdN (zjg (pos:=t5) (zf5 Y) (zb7 ap (zdN rv)) zen)))) ?_;rintro D σ H ⟨v,A,B,d,P,h0,hd,R,ok,hc,fin⟩;refine⟨v,h0,by decide,fun p M=>?_⟩;have s:=R.new (o:=.tup [.ty "list",.ty "tuple"]) M;have G:Off A d H _:=.new (o:=.tup [.ty "list",.ty "tuple"]) M;have u:upd H p (.tup [.ty "list",.ty "tuple"]) p=some (.tup (["list","tuple"].map V.ty)):=zan;generalize upd H p (.tup [.ty "list",.ty "tuple"])=H1 at s G u
 rcases ok with ok|⟨a,m,c,rfl,h,hm⟩
 ·obtain⟨T,ty,k1,k2,k3⟩:=zvn (K:=X.K) (H:=H1) (A:=A) (n:=n) ok
  have q:cV A v=0:=by cases v<;>first|rfl|exact ok.elim
  rw[q]at fin;exact⟨v,T,p,_,false,rfl,u,ty,k1,false,rfl,zhE ⟨v,h0,v,_,"dict",false,rfl,ty.ty,k2,false,rfl,zhE ⟨v,h0,v,_,"list",false,rfl,ty.ty,k3,false,rfl,zhE (fin σ H1 s G)⟩⟩⟩
 ·have q:cV A (.ref a)=c:=by show(A a).elim 0 (·.2)=c;rw[h];rfl
  rw[q]at fin hc;obtain⟨xs,O,z⟩:=s.at_ a m c h
  rcases z with⟨g,S,z3⟩|⟨g,S⟩
  ·refine⟨.ref a,_,p,_,true,rfl,u,.lst g,zoN.1,true,rfl,zkh (.inl ⟨.ref a,h0,a,rfl,⟨xs,SqL.of g⟩,?_⟩)⟩;refine zmM h g (yaj hm (ybp hd)) O s (by omega) P h0 (fun i H x e ex=>⟨xs,x,SqL.of e,ex⟩) (fun i H x H' e y=>⟨y.1,fun _=>y.2 xs (SqL.of e)⟩) (fun i H e hi=>⟨xs,SqL.of e,hi⟩) fun l H2 l2 h2 R2 t=>?_
   have a2:=t.same h g;refine⟨.ref a,h2,.ref a,_,"dict",false,rfl,.lst a2,zoN.2.1,false,rfl,zhE ⟨.ref a,h2,.ref a,_,"list",true,rfl,.lst a2,zoN.2.2,true,rfl,zkh ?_⟩⟩;refine⟨.ref a,h2,.inl ⟨rfl,xs,SqL.of a2⟩,a,xs,.non,rfl,rfl,a2,by omega,.ref a,h2,.inl ⟨rfl,_,SqL.of zan⟩,a,_,rfl,rfl,zan,?_⟩
   have r:∀b,b≠a->upd (upd H2 a (.lst (xs++[V.non]))) a (.lst (xs++[V.non]).reverse) b=H2 b:=fun b r=>by rw[zai r,zai r]
   refine fin l _ ((R2.mono (C:=B-c+1) (by omega)).spoilt h a2 zan r) ((G.trans (t.mono (ybV hm))).trans fun b o e=>?_)
   by_cases Q:b=a
   ·subst Q;rw[a2]at e;cases e;exact .inr ⟨m,c,xs,_,h,hm,rfl,zan⟩
   ·exact .inl ((r b Q).trans e)
  ·refine⟨.ref a,_,p,_,true,rfl,u,.tup g,zoM.1,true,rfl,zkh (.inr ⟨.ref a,h0,a,rfl,⟨xs,SqT.of g⟩,?_⟩)⟩;refine zmM h g (yaj hm (ybp hd)) O s (by omega) P h0 (fun i H x e ex=>⟨xs,x,SqT.of e,ex⟩) (fun i H x H' e y=>⟨y.1,fun _=>y.2 xs (SqT.of e)⟩) (fun i H e hi=>⟨xs,SqT.of e,hi⟩) fun l H2 l2 h2 R2 t=>?_
   have a2:=t.same h g;exact⟨.ref a,h2,.ref a,_,"dict",false,rfl,.tup a2,zoM.2.1,false,rfl,zhE ⟨.ref a,h2,.ref a,_,"list",false,rfl,.tup a2,zoM.2.2,false,rfl,zhE (fin l H2 (R2.mono (by omega)) (G.trans (t.mono (ybV hm))))⟩⟩
noncomputable def zlL(sc:Scope):Bool:=decide (sc.names.lookup ("_law_thing":Str)=some .local)&&decide (sc.names.lookup ("_law_one":Str)=some .local)&&((["isinstance","list","tuple","dict","_law_spoil"]:List Str).all fun x=>decide (sc.names.lookup x=some .globalImplicit))
def znQ{P:Program}{wo:PySem.World}{K:PySem.W.Frag}{mg:Z6}{base:Heap}{k:Nat}{x qual:Str}{st:Stmt}{f:Addr}{fd:FuncData}{N:List Str}{ae:List Stmt}{q1 q2 q3 q4 q5 q6 q7 q8 q9 a9 a8 U J I r1 r2 r3 r4 r5 s1 s2 s3 s4 s5 s6 s7 s8 s9 t1 t2 t3 t4 t5:Pos}{k0 k1:Nat}
  (F:Fun K x qual st f fd) (S:FnScope N ["_law_thing"] (zae st)) (n1:N[1]?=some ("_law_one":Str)) (hs:zlL (zae st)=true) (bd:zbz K fd ["_law_thing"] []) (kp:PySem.W.keepIn K (.ref f)=true)
  (mi:mg "isinstance"=none) (ml:mg "list"=none) (mt:mg "tuple"=none) (md:mg "dict"=none) (ms:mg "_law_spoil"=some (.ref f)) (ab:(s6.endLine==s8.line)=true) (aa:(t2.endLine==t3.line)=true)
  (hb:zaP st=[.If (.Call (.Name "isinstance" q1) [.Name "_law_thing" q2,.Tuple [.Name "list" q3,.Name "tuple" q4] k0 q5] [] q6) [.For (.Name "_law_one" q7) (.Name "_law_thing" q8) [.Expr (.Call (.Name "_law_spoil" q9) [.Name "_law_one" a9] [] a8) U] [] J] [] I,
   .If (.Call (.Name "isinstance" r1) [.Name "_law_thing" r2,.Name "dict" r3] [] r4) ae [] r5,
   .If (.Call (.Name "isinstance" s1) [.Name "_law_thing" s2,.Name "list" s3] [] s4) [.Expr (.Call (.Attribute (.Name "_law_thing" s5) "append" s6) [.Constant .none k1 s7] [] s8) s9,.Expr (.Call (.Attribute (.Name "_law_thing" t1) "reverse" t2) [] [] t3) t4] [] t5]):
  ∀n,FnOk P wo K mg base (CXE P wo) (k+n) f fd ["_law_thing"] (ze9 n):=by
 intro n
 induction n with
 |zero=>exact⟨fun vs H Q E ⟨_,_,_,_,_,hd,_⟩=>absurd hd (ybT _),fun A outer s H args us vs Q E _ _ _ _ ⟨_,_,_,_,_,hd,_⟩=>absurd hd (ybT _)⟩|succ n j=>
  obtain⟨G,D,kV,doc,pm,an,p,ct,g,rfl,i,b⟩:=F.ex;rw[<-Nat.add_assoc];simp only[zlL,yab,yaR,ybq,List.all_nil,Bool.and_true]at hs;obtain⟨⟨a1,a2⟩,w,u,t,r,q⟩:=hs
  have h:N[0]?=some ("_law_thing":Str):=by
   have:=congrArg (fun l:List Str=>l[0]?) S.pre;rwa[ycH]at this
  refine zm9 i b S (fun vs H Q E ⟨v,_,_,_,e,_⟩=>by rw[e];rfl) fun A outer s H vs Q E m a=>⟨tSp (n+1),?_,?_⟩
  ·rw[hb];exact zkJ (CX:=CXE P wo) (E:=E) (k:=k+n) (f:=f) S.nd h n1 (.inl a1) (.inl a2) (.inl a2) (.inr a2) w mi u ml t mt r md q ms kp bd j m zot rfl PassesOwn.leaving ab aa
  ·obtain⟨v,y,B,d,rfl,hd,R,ok,o,fin⟩:=a;refine⟨v,y,B,d,?_,?_,hd,R,ok,o,fun c H' z C=>fin H' z C⟩
   ·have:1<N.length:=(yal.mp n1).1;show 1<(([v].map some)++List.replicate (N.length-1) none).length;rw[yap,yaL,yaf,ybb];omega
   ·rfl
end S2
namespace L2
open PySem PySem.Spec PyProof.Rows
end L2
namespace S2
open PySem PySem.Spec PyProof.Rows L2
noncomputable def zwC:Operator->Option (Int->Int->Int)|.Add=>some (·+·)|.Sub=>some (· - ·)|_=>none
noncomputable def zr3(i:Nat)(g:Int->Int->Int)(fe:Fe):Fs:=fun ρ S=>match ρ[i]? with
 |some (~~~.int a)=>(match fe ρ S with
  |.ok (.int b) S1=>.nx (ρ.set i (~~~.int (g a b))) S1|.ok _ _=>.bad|.exc c S1=>.ex c ρ S1|.bad=>.bad)
 |_=>.bad
noncomputable def lrD:D->Option D|.int n=>if decide (0<=n/\n<=1000)then some (.lst ((List.range n.toNat).map fun(i:Nat)=>D.int (i:Int)))else none|_=>none
section
variable{cl:Cf}{X:Cx}{E:St->XK}{e:Expr}{fe f:Fe}{pos:Pos}{own:Bool}
def zsK(I:zwC op=some g)(U:X.N.Nodup)(hi:X.N[i]?=some x)(J:Loc X.env.scope x)(he:PE X e (tE cl E fe))(hf:X.fn x=true\/X.env.scope.names.lookup x=some .local):PS X (.AugAssign (.Name x p) op e pos) (tS cl E own (zr3 i g fe)):=by
 have main:∀ti:TIp,PIp X op ti->(∀a b H Q,Q (.int (g a b)) H->ti (.int a) (.int b) H Q)->PS X (.AugAssign (.Name x p) op e pos) (tS cl E own (zr3 i g fe)):=by
  intro ti m j;refine PS.imp (ztl U hi J he m hf) ?_;rintro De σ H ⟨B,w,ρ,S,rfl,R,q⟩;unfold zr3 at q;split at q
  ·rename_i a n;obtain⟨v,ev,l⟩:=R.slots i false _ n;have h:Shd cl w v (.int a):=l;cases h;refine⟨_,ev,B,w,ρ,S,rfl,R,?_⟩
   cases f:fe ρ S with
   |bad=>rwa[f]at q|exc c S1=>rw[f]at q;exact fun w' r s=>q σ w' r s|ok d S1=>
    rw[f]at q;intro y k o F1 h1
    cases d with
    |int b=>
     cases h1;exact j a b _ _ (q _ k (o.put (.int _)) F1)
    |_=>exact q.elim
  ·exact q.elim
 cases op<;>simp[zwC]at I<;>subst I
 ·exact main zxv zus fun a b H Q q=>⟨a,b,rfl,rfl,q⟩
 ·exact main zxu zur fun a b H Q q=>⟨a,b,rfl,rfl,q⟩
theorem ziF:∀l:List Nat,Shds cl w (l.map fun(i:Nat)=>V.int (i:Int)) (l.map fun(i:Nat)=>D.int (i:Int))
 |[]=>.nil|a::l=>.cons (.int _) (ziF l)
theorem zli:bootBuiltins "list"=some (.type "list"):=by decide +kernel
theorem zs1(hc:X.calm=true)(hg:Gl X "list")(hm:X.mg "list"=none)(J:Gl X "range")(I:X.mg "range"=none)(he:PE X e (tE cl E f))(hs:starEach [e] X.env=[(false,eval e X.env)]):
  PE X (.Call (.Name "list" p) [.Call (.Name "range" p2) [e] [] U] [] pos) (tN cl E (eUn lrD f)):=by
 refine PE.imp (zeL (zhR hc) hg hm zli (zam (ztx J I (zfa he zid hs) hs) zaQ)) ?_;rintro σ H Q ⟨B,w,ρ,S,rfl,R,q⟩;refine⟨B,w,ρ,S,rfl,R,?_⟩;unfold eUn at q
 cases hf:f ρ S with
 |bad=>rw[hf]at q;exact q.elim|exc c S1=>rw[hf]at q;simp only[zap,hf,Out.bind];exact q|ok d S1=>
  rw[hf]at q;simp only[zap,hf,Out.bind];intro vs h k F1 sh;dsimp only[Out.bind]at q
  cases a:lrD d with
  |none=>rw[a]at q;exact q.elim|some r=>
   rw[a]at q;unfold lrD at a;split at a
   ·rename_i n;split at a
    ·rename_i i;cases a;have b:=yai i
     cases sh with
     |cons h1 j=>
      cases j;cases h1;refine⟨n,rfl,b.1,b.2,fun pr g=>⟨pr,n.toNat,rfl,?_,by omega,fun l a=>?_⟩⟩
      ·rw[show((n.toNat:Nat):Int)=n by omega];exact zan
      ·exact q l _ (h.add pr (.rng 0 n)) (k.grow (zaC g _)) (F1.trans (zaC g _).fut) a (.lst (ziF _))
    ·cases a
   ·cases a
end
end S2
namespace ST
open PySem PySem.Spec PySem.W PyProof.Rows
section
variable{prog:Program}{w:World}{A:Around}{E:Z5}{s:Shared}
theorem zfz(k:∀b o,h.get? b=some o->o.cls=.type "tuple" -> h'.get? b=some o):∀{vs fs:List Value},KatTups h vs fs->KatTups h' vs fs
 |[],[],_=>trivial|_::_,_::_,t=>by
  obtain⟨⟨a,o,xs,n,e,d,c,hd,hf⟩,t⟩:=t;exact⟨⟨a,o,xs,n,e,k a o d c,c,hd,hf⟩,zfz k t⟩
theorem zlN{a:Addr}{vs fs:List Value}{n:Nat}{p:Array Nat}{P:PySem.Fin->Shared->Prop}(ho:s.heap.get? a=some (seqObj "list" vs.toArray n))(h2:2<=vs.length)(I:vs.length<64)(t:KatTups s.heap vs fs)(J:0<fs.length)(hf:∀v∈fs,∃i t,v=.int i t)
  (h:∀(s':Shared) (G:Array Nat->Shared->Prop),(∀b o,s.heap.get? b=some o->o.cls=.type "tuple" -> s'.heap.get? b=some o)->G p s'->(kas_sort vs.length).kasWp (kas_ask prog w A (tuples' true) vs) G s')
  (U:P (.done (.ret .none)) {s with heap:=sortedHeap s.heap a vs (List.toArray (p.toList.map fun i=>vs.getD i Value.none))}):
  wpAny (model prog w) A (Builtin.«list.sort» ⟨[.ref a],[]⟩) P E s:=by
 rw[list_sort_plain];have H:a<s.heap.objs.size:=yao ho;refine yaa (listItems_at ho rfl ?_);refine yaa (ydo ho rfl ?_ (by rw[yah,ybM];omega) (yaF _));obtain⟨u,g⟩:∃u,(s.heap.update a (Obj.mapSeq fun _=>#[])).get? a=some (seqObj "list" #[] u):=⟨_,get?_update_seq ho (fun _=>#[])⟩;refine yaa (seqEpoch_at g rfl ?_);refine yaa (wpAny_newTuple ?_ (by show vs.length<=_;rw[ybM];omega));refine yaa (wpAny_newList ?_ (yaF _));refine ybv ?_;have f:(((s.heap.update a (Obj.mapSeq fun _=>#[])).push (seqObj "tuple" vs.toArray 0)).push (seqObj "list" #[] 0)).get? a=some (seqObj "list" #[] u):=yac _ (yac _ g)
 have kp:∀b o,s.heap.get? b=some o->o.cls=.type "tuple" -> (((s.heap.update a (Obj.mapSeq fun _=>#[])).push (seqObj "tuple" vs.toArray 0)).push (seqObj "list" #[] 0)).get? b=some o:=by
  intro b o m B
  have k:b≠a:=fun z=>by
   subst z;rw[ho]at m;cases m;exact absurd (Value.type.inj B) (by decide)
  exact yac _ (yac _ ((Heap.SameBut.update s.heap a _).2 b k |>.trans m))
 show wpAny (model prog w) A _ P E {s with heap:=((s.heap.update a (Obj.mapSeq fun _=>#[])).push (seqObj "tuple" vs.toArray 0)).push (seqObj "list" #[] 0)};dsimp only
 have j:¬ vs.toArray.size<2:=by rw[yah];omega
 rw[if_neg j,if_neg j];refine yaa (kat_kind (fs:=fs) (T:=.type "int") (zfz kp t) J (fun v x=>?_) (by decide) ?_)
 ·obtain⟨i,tk,rfl⟩:=hf v x;exact .now
 refine yaa (ybl (kat_run (Q:=fun c s'=>s'={s with heap:=((s.heap.update a (Obj.mapSeq fun _=>#[])).push (seqObj "tuple" vs.toArray 0)).push (seqObj "list" #[] 0)}/\p.size=vs.length/\arrOf c=p.map (kas_item (vs.toArray.zip vs.toArray))/\failedOf c=none)
  (G:=fun q s'=>q=p/\s'={s with heap:=((s.heap.update a (Obj.mapSeq fun _=>#[])).push (seqObj "tuple" vs.toArray 0)).push (seqObj "list" #[] 0)}) rfl h2 I (fun F c s' a1 a2 D C=>?_) (h _ _ kp ⟨rfl,rfl⟩)) ?_ fun _ _ e=>e)
 ·obtain⟨rfl,rfl⟩:=C;exact⟨rfl,a1,a2,D⟩
 rintro⟨⟨⟩,c⟩ s' ⟨rfl,y,r,l⟩;dsimp only;have d:=kat_snds rfl r
 have hsz:(List.toArray (p.toList.map fun i=>vs.getD i Value.none)).size=vs.length:=by rw[yah,yaf,ya7,y]
 rw[d];refine yaa (seqEpoch_at f rfl ?_);refine yaa (ydo f rfl ?_ (yaF _) (yak (ybI hsz) (by rw[ybM];omega)));rw[l];simp only[bne_self_eq_false,yaK,ybr];exact yae U
noncomputable def lxL(a1 a2 I J:Int):Bool:=decide (a1<I\/(a1=I/\a2<J))
def zpa{vs:List Value}{i j:Nat}{x y:Addr}{a1 a2 J I:Int}{t1 t2 u1 U:Tok}{C:Bool->Shared->Prop}(hi:vs.getD i Value.none=.ref x)(hj:vs.getD j Value.none=.ref y)(hx:s.heap.IsTuple x #[.int a1 t1,.int a2 t2])(hy:s.heap.IsTuple y #[.int J u1,.int I U])
  (h:C (lxL a1 a2 J I) s):kas_ask prog w A (tuples' true) vs i j C s:=by
 unfold kas_ask;rw[hi,hj];obtain⟨f,ex,_,nx,dx⟩:=hx;obtain⟨e,c,_,g,d⟩:=hy;refine kat_lt ex dx c d ?_;refine kat_cons (wpAny_eqBool_int ?_)
 by_cases a:a1=J
 ·subst a;rw[ybn];refine kat_yes (kat_cons (wpAny_eqBool_int ?_))
  by_cases b:a2=I
  ·subst b;rw[ybn];refine kat_yes (kat_nil ?_)
   have:lxL a1 a2 a1 a2=decide ((#[Value.int a1 t1,Value.int a2 t2]:Array Value).size<(#[Value.int a1 u1,Value.int a2 U]:Array Value).size):=by simp[lxL]
   rw[<-this];exact h
  ·rw[beq_false_of_ne b];refine kat_no (kat_one _ _ (lt_int ?_))
   have:lxL a1 a2 a1 I=decide (a2<I):=by simp[lxL]
   rwa[this]at h
 ·rw[beq_false_of_ne a];refine kat_no (oneLt_int ?_)
  have:lxL a1 a2 J I=decide (a1<J):=by simp[lxL,a]
  rwa[this]at h
end
end ST
namespace L2
open PySem PySem.Spec PySem.W PyProof.Rows ST
end L2
namespace S2
open PySem PySem.Spec PyProof.Rows L2 ST
noncomputable def zf7:D->Option (Int×Int)|.tup [.int a,.int b]=>some (a,b)|_=>none
section
variable{X:Cx}{cl:Cf}{E:St->XK}{a b:Expr}{f g:Fe}
def zf6(h:Shd cl w v d)(e:zf7 d=some x):∃q,v=.ref q/\w.H q=some (.tup [.int x.1,.int x.2]):=by
 unfold zf7 at e;split at e
 ·cases e
  cases h with
  |tup ep k r=>
   cases r with
   |cons r1 a=>
    cases a with
    |cons a b=>cases b;cases r1;cases a;exact⟨_,rfl,ep⟩
 ·cases e
end
end S2
namespace ST
open PySem PySem.Spec PySem.W PyProof.Rows
noncomputable def Okk{α:Type}(n:Nat)(I:Nat->Nat->Bool):KasT α->(α->Prop)->Prop
 |.ret a,Q=>Q a|.ask i j k,Q=>i<n/\j<n/\Okk n I (k (I i j)) Q
theorem Okk.bind{α β:Type}{f:α->KasT β}{Q:β->Prop}:∀{t:KasT α},Okk n I t (fun a=>Okk n I (f a) Q)->Okk n I (t.bind f) Q
 |.ret a,h=>h|.ask i j k,h=>⟨h.1,h.2.1,Okk.bind (t:=k (I i j)) h.2.2⟩
theorem Okk.mono{α:Type}{Q U:α->Prop}(J:∀a,Q a->U a):∀{t:KasT α},Okk n I t Q->Okk n I t U
 |.ret a,h=>J a h|.ask i j k,h=>⟨h.1,h.2.1,Okk.mono J (t:=k (I i j)) h.2.2⟩
section
variable{n:Nat}{key:Nat->Int}
noncomputable abbrev ansK(key:Nat->Int)(i j:Nat):Bool:=decide (key i<key j)
noncomputable abbrev KP(key:Nat->Int)(p:Array Nat)(i:Nat):Int:=key (p.getD i 0)
structure Ps(n:Nat)(p:Array Nat):Prop where
 perm:p.toList.Perm (List.range n)
theorem Ps.size(h:Ps n p):p.size=n:=by
 have:=h.perm.length_eq;rwa[ybo,ya7]at this
def Ps.get(h:Ps n p)(hi:i<n):p.getD i 0=p[i]'(by rw[h.size];exact hi):=by
 rw[yaT,ybf (by rw[h.size];exact hi)];rfl
theorem Ps.lt(h:Ps n p)(I:0<n):p.getD i 0<n:=by
 by_cases hi:i<n
 ·rw[h.get hi]
  have:p[i]'(by rw[h.size];exact hi)∈p.toList:=by simp
  exact ybd.mp (h.perm.mem_iff.mp this)
 ·rw[yaT,yb8 (by rw[h.size];omega)];exact I
theorem Ps.ne(h:Ps n p)(inj:∀i j,i<n->j<n->key i=key j->i=j)(hi:i<n)(J:j<n)(I:i≠j):KP key p i≠KP key p j:=by
 intro z
 have a:0<n:=by omega
 have e:=inj _ _ (h.lt a) (h.lt a) z;rw[h.get hi,h.get J]at e;have nd:p.toList.Nodup:=h.perm.nodup_iff.mpr List.nodup_range;have:=(List.getElem_inj (i:=i) (j:=j) (h₀:=by rw[ya7,h.size];exact hi) (h₁:=by rw[ya7,h.size];exact J) nd).mp (by rw[yci,yci];exact e);exact I this
def Ps.of(h:Ps n p)(I:q.Perm p):Ps n q:=⟨(Array.perm_iff_toList_perm.mp I).trans h.perm⟩
noncomputable def Srt(key:Nat->Int)(p:Array Nat)(m:Nat):Prop:=∀i j,i<j->j<m->KP key p i<KP key p j
noncomputable def Dsc(key:Nat->Int)(p:Array Nat)(m:Nat):Prop:=∀i j,i<j->j<m->KP key p j<KP key p i
theorem Srt.next(h:Srt key p m)(J:1<=m)(I:KP key p (m-1)<KP key p m):Srt key p (m+1):=by
 intro i j a c
 by_cases e:j=m
 ·subst e
  by_cases b:i=j-1
  ·rw[b];exact I
  ·exact ycU (h i (j-1) (by omega) (by omega)) I
 ·exact h i j a (by omega)
def Dsc.next(h:Dsc key p m)(J:1<=m)(I:KP key p m<KP key p (m-1)):Dsc key p (m+1):=by
 intro i j a c
 by_cases e:j=m
 ·subst e
  by_cases b:i=j-1
  ·rw[b];exact I
  ·exact ycU I (h i (j-1) (by omega) (by omega))
 ·exact h i j a (by omega)
def zpC(h:Ps n p)(inj:∀i j,i<n->j<n->key i=key j->i=j):∀(f m:Nat),1<=m->m+f<=n->Srt key p m->Okk n (ansK key) (kas_asc p f m) fun r=>m<=r/\r<=m+f/\Srt key p r/\(r<m+f->KP key p r<KP key p (r-1)):=by
 intro f
 induction f with
 |zero=>intro m h1 k hs;exact⟨yag _,yag _,hs,fun z=>absurd z (yaW _)⟩|succ f q=>
  intro m h1 k hs;have g:=yaj (ybW (Nat.succ_pos f)) k;have e:=ycg g;refine⟨h.lt e,h.lt e,?_⟩;dsimp only[ansK]
  by_cases c:key (p.getD m 0)<key (p.getD (m-1) 0)
  ·rw[yaB c,if_pos rfl];exact⟨yag _,yb3 ..,hs,fun _=>c⟩
  ·rw[yaH c,if_neg (by decide)];have o:=Nat.sub_one_lt_of_lt h1;have s:KP key p (m-1)<KP key p m:=Int.lt_iff_le_and_ne.mpr ⟨Int.not_lt.mp c,Ne.symm (h.ne inj g (ydf o g) (yaQ o))⟩;have l:=Nat.succ_add_eq_add_succ m f;exact Okk.mono (fun r ⟨a,b,c,d⟩=>⟨ybR a,yak b (ybI l),c,fun z=>d (Nat.lt_of_lt_of_eq z l.symm)⟩) (q (m+1) (Nat.succ_pos m) (yak (ybI l) k) (hs.next h1 s))
theorem zmC(h:Ps n p)(inj:∀i j,i<n->j<n->key i=key j->i=j):∀(f m:Nat),1<=m->m+f<=n->Dsc key p m->Okk n (ansK key) (kas_desc f p m 0) fun r=>r.1=p/\m<=r.2.1/\r.2.1<=m+f/\r.2.2=0/\Dsc key p r.2.1
 |0,m,h1,o,hs=>⟨rfl,yag _,yag _,rfl,hs⟩|f+1,m,h1,o,hs=>by
  have g:0<n:=by omega
  refine⟨h.lt g,h.lt g,?_⟩;dsimp only[ansK]
  by_cases c:key (p.getD m 0)<key (p.getD (m-1) 0)
  ·rw[yaB c,if_pos rfl,if_neg (by decide)];refine Okk.mono ?_ (zmC h inj f (m+1) (by omega) (by omega) (hs.next h1 c));rintro r ⟨a,b,c,d,e⟩;exact⟨a,by omega,by omega,d,e⟩
  ·rw[yaH c,if_neg (by decide)];have k:=h.ne inj (i:=m) (j:=m-1) (by omega) (by omega) (by omega)
   have q:key (p.getD (m-1) 0)<key (p.getD m 0):=by
    have l:key (p.getD m 0)≠key (p.getD (m-1) 0):=k;omega
   refine⟨h.lt g,h.lt g,?_⟩;dsimp only[ansK];rw[yaB q,if_pos rfl];exact⟨rfl,yag _,yb3 m (f+1),rfl,hs⟩
def zrC{p q:Array Nat}{i j:Nat}(h:p[i]?=q[j]?):p.getD i 0=q.getD j 0:=by
 rw[yaT,yaT,h]
theorem zqI(hm:m<=p.size)(h:Dsc key p m):Srt key (kas_rev p 0 m) m:=by
 intro i j c b
 have e:∀k,k<m->(kas_rev p 0 m).getD k 0=p.getD (m-1-k) 0:=fun k a=>by
  apply zrC;unfold kas_rev;rw[getElem?_mirror_all hm,if_pos ⟨yaF _,a⟩,Nat.zero_add]
 show key _<key _;rw[e i (by omega),e j b];exact h (m-1-j) (m-1-i) (by omega) (by omega)
theorem zoB(h:Ps n p)(h2:2<=n)(inj:∀i j,i<n->j<n->key i=key j->i=j):Okk n (ansK key) (kas_count n p) fun r=>Ps n r.2/\1<=r.1/\r.1<=n/\Srt key r.2 r.1:=by
 have g:=ybR h2;have u:=ybZ g;unfold kas_count;refine Okk.bind (Okk.mono ?_ (zpC h inj (n-1) 1 (yag _) (ybI u) fun i j f o=>absurd (yaj f (ybp o)) (ybT i)));rw[u];rintro m ⟨a,b,c,d⟩
 by_cases e:m=n
 ·subst e;rw[if_pos (by simp)];exact⟨h,a,yag _,c⟩
 ·rw[if_neg (by simpa using e)]
  by_cases l:m > 1
  ·rw[if_pos l];refine⟨h.lt g,h.lt g,?_⟩;dsimp only[ansK];rw[yaB (c 0 (m-1) (Nat.sub_pos_of_lt l) (Nat.sub_one_lt_of_lt a)),if_pos rfl];exact⟨h,a,b,c⟩
  ·rw[if_neg l];obtain rfl:=yda (yc4.mp l) a;have y:=d h2;have v:=ybZ h2;unfold kas_descPart
   refine Okk.bind (Okk.mono ?_ (zmC h inj (n-(1+1)) (1+1) (by decide) (ybI v) (fun i j f o=>by
    obtain rfl:=yda (ybp o) (ycg f);obtain rfl:=Nat.le_zero.mp (ybp f)
    exact y)))
   rintro⟨q,m,z⟩ ⟨a1,a2,k,x,w⟩;dsimp only at a1 a2 k x w ⊢;subst a1 x;rw[v]at k;rw[if_neg (by decide)];unfold kas_tail3;have t:Ps n (kas_rev q 0 m):=h.of (mirror_perm _ _ _ _);have s:=ybR a2;refine Okk.bind (Okk.mono ?_ (zpC t inj (n-m) m s (ybI (ybZ k)) (zqI (by rw[h.size];exact k) w)));rw[ybZ k];rintro r ⟨C,B,A,_⟩;exact⟨t,yak s C,B,A⟩
def zoA(h:Ps n p)(inj:∀i j,i<n->j<n->key i=key j->i=j)(I:k<n)(hs:Srt key p k):∀(f l r:Nat),l<=r->r<=k->r-l<=f->(∀i,i<l->KP key p i<KP key p k)->(∀i,r<=i->i<k->KP key p k<KP key p i)->Okk n (ansK key) (kas_place p k f l r) fun m=>m<=k/\(∀i,i<m->KP key p i<KP key p k)/\∀i,m<=i->i<k->KP key p k<KP key p i:=by
 intro f
 induction f with
 |zero=>
  intro l r g a hf h1 h2;obtain rfl:=yda g (Nat.le_of_sub_eq_zero (Nat.le_zero.mp hf));exact⟨a,h1,h2⟩
 |succ f s=>
  intro l r g a hf h1 h2;have b:=ycg I;unfold kas_place
  by_cases e:l ≥ r
  ·rw[if_pos e];obtain rfl:=yda g e;exact⟨a,h1,h2⟩
  ·rw[if_neg e];refine⟨h.lt b,h.lt b,?_⟩;dsimp only[ansK];obtain⟨m,hm,w,q,v,u⟩:∃m,(l+r) / 2=m/\l<=m/\m<r/\m-l<=f/\r-(m+1)<=f:=⟨_,rfl,by clear h1 h2;omega⟩;rw[hm];have mk:=yaj q a
   by_cases c:key (p.getD k 0)<key (p.getD m 0)
   ·rw[yaB c,if_pos rfl];refine s l m w (ybV mk) v h1 fun i hi o=>?_
    by_cases d:i=m
    ·rw[d];exact c
    ·exact ycU c (hs m i (ycI hi (Ne.symm d)) o)
   ·rw[yaH c,if_neg (by decide)];have t:KP key p m<KP key p k:=Int.lt_iff_le_and_ne.mpr ⟨Int.not_lt.mp c,Ne.symm (h.ne inj I (ydf mk I) (yaQ mk))⟩;refine s (m+1) r q a u (fun i hi=>?_) h2
    by_cases d:i=m
    ·rw[d];exact t
    ·exact ycU (hs i m (ycI (ybp hi) d) mk) t
def ztP(inj:∀i j,i<n->j<n->key i=key j->i=j):∀(f:Nat) (p:Array Nat) (k:Nat),Ps n p->k+f=n->Srt key p k->Okk n (ansK key) (kas_bin f p k) fun q=>Ps n q/\Srt key q n:=by
 intro f
 induction f with
 |zero=>intro p k h m hs;exact⟨h,by rw[<-m];exact hs⟩
 |succ f A=>
  intro p k h m hs
  have y:k<n:=by rw[<-m];exact ybW (Nat.succ_pos f)
  unfold kas_bin;refine Okk.bind (Okk.mono ?_ (zoA h inj y hs k 0 k (yaF _) (yag _) (yag _) (fun i hi=>absurd hi (ybT i)) fun i hi x=>absurd x (yc4.mpr hi)));rintro l ⟨a,b,c⟩;refine A _ (k+1) (h.of (bubble_perm _ _ _)) ((Nat.succ_add_eq_add_succ k f).trans m) ?_
  have v:k<p.size:=by rw[h.size];exact y
  have e:∀i,i<k+1->(bubble p k (k-l)).getD i 0=if i=l then p.getD k 0 else if l<i then p.getD (i-1) 0 else p.getD i 0:=fun i hi=>by
   rw[yaT,getElem?_bubble v (k-l) (Nat.sub_le ..)];rw[Nat.sub_sub_self a]
   by_cases r:i=l
   ·rw[if_pos r,if_pos r,yaT]
   ·rw[if_neg r,if_neg r]
    by_cases o:l<i
    ·rw[if_pos ⟨o,ybp hi⟩,if_pos o,yaT]
    ·rw[if_neg (fun z=>o z.1),if_neg o,yaT]
  intro i j d w;show key _<key _;rw[e i (ydf d w),e j w]
  by_cases g:l<j
  ·rw[if_neg (yaQ g),if_pos g];have s:=Nat.sub_one_lt_of_le (ycg g) (ybp w)
   by_cases i1:i=l
   ·rw[if_pos i1];exact c (j-1) (Nat.le_sub_one_of_lt g) s
   ·rw[if_neg i1]
    by_cases i2:l<i
    ·rw[if_pos i2];exact hs (i-1) (j-1) (Nat.sub_lt_sub_right (ycg i2) d) s
    ·rw[if_neg i2];exact hs i (j-1) (yaj (ycI (yc4.mp i2) i1) (Nat.le_sub_one_of_lt g)) s
  ·have u:=yaj d (yc4.mp g);rw[if_neg (yaz u),if_neg (Nat.lt_asymm u),if_neg g]
   by_cases t:j=l
   ·rw[if_pos t];exact b i u
   ·rw[if_neg t];exact hs i j d (yaj (ycI (yc4.mp g) t) a)
theorem zuf(h2:2<=n)(inj:∀i j,i<n->j<n->key i=key j->i=j):Okk n (ansK key) (kas_sort n) fun p=>p.toList.Perm (List.range n)/\(p.toList.map key).Pairwise (· < ·):=by
 have h0:Ps n (List.toArray (List.range n)):=⟨by simp⟩
 have fin:∀q,Ps n q/\Srt key q n->q.toList.Perm (List.range n)/\(q.toList.map key).Pairwise (· < ·):=by
  rintro q ⟨a,b⟩;refine⟨a.perm,?_⟩;rw[List.pairwise_iff_getElem];intro i j hi f g;rw[yaf,ya7,a.size]at hi f;rw[ybH,ybH,yci,yci];have:=b i j g f;unfold KP at this;rwa[a.get hi,a.get f]at this
 unfold kas_sort;refine Okk.bind (Okk.mono ?_ (zoB h0 h2 inj));rintro⟨m,q⟩ ⟨a,b,c,d⟩;dsimp only at a b c d ⊢
 by_cases e:m<n
 ·rw[if_pos e];rw[show max m 1=m by omega];exact Okk.mono fin (ztP inj (n-m) q m a (by omega) d)
 ·rw[if_neg e]
  have:m=n:=by omega
  subst this;exact fin q ⟨a,d⟩
end
section
variable{prog:Program}{w:World}{A:Around}{E:Z5}{s:Shared}
theorem znT{a:Addr}{vs:List Value}{n:Nat}{P:PySem.Fin->Shared->Prop}(ho:s.heap.get? a=some (seqObj "list" vs.toArray n))(h2:vs.length<2)
  (I:P (.done (.ret .none)) {s with heap:=sortedHeap s.heap a vs vs.toArray}):wpAny (model prog w) A (Builtin.«list.sort» ⟨[.ref a],[]⟩) P E s:=by
 rw[list_sort_plain];refine yaa (listItems_at ho rfl ?_);refine yaa (ydo ho rfl ?_ (by rw[yah,ybM];omega) (yaF _));obtain⟨e,c⟩:∃e,(s.heap.update a (Obj.mapSeq fun _=>#[])).get? a=some (seqObj "list" #[] e):=⟨_,get?_update_seq ho (fun _=>#[])⟩;refine yaa (seqEpoch_at c rfl ?_);refine yaa (wpAny_newTuple ?_ (by show vs.length<=_;rw[ybM];omega));refine yaa (wpAny_newList ?_ (yaF _));refine ybv ?_;have b:(((s.heap.update a (Obj.mapSeq fun _=>#[])).push (seqObj "tuple" vs.toArray 0)).push (seqObj "list" #[] 0)).get? a=some (seqObj "list" #[] e):=yac _ (yac _ c);show wpAny (model prog w) A _ P E {s with heap:=((s.heap.update a (Obj.mapSeq fun _=>#[])).push (seqObj "tuple" vs.toArray 0)).push (seqObj "list" #[] 0)};dsimp only
 have d:vs.toArray.size<2:=by rw[yah];omega
 rw[if_pos d,if_pos d];refine yaa (yae ?_);rw[StateT.run_pure];refine yaa (yae ?_);dsimp only;refine yaa (seqEpoch_at b rfl ?_)
 have f:(arrOf (SortSt.mk' general' (vs.toArray.zip vs.toArray) #[] 7 none)).map (·.2)=vs.toArray:=by
  show(vs.toArray.zip vs.toArray).map (·.2)=vs.toArray;apply Array.toList_inj.mp;simp;exact List.map_snd_zip (yag _)
 refine yaa (ydo b rfl ?_ (yaF _) (by show((arrOf (SortSt.mk' general' (vs.toArray.zip vs.toArray) #[] 7 none)).map (·.2)).size<=_;rw[f,yah,ybM];omega));simp only[bne_self_eq_false,yaK,ybr];refine yae ?_;have:=I;rwa[<-f]at this
end
noncomputable def zkA(h:Heap)(d:Addr)(es:Array DictEntry)(ep:Nat):Prop:=∃o,h.get? d=some o/\o.ExactDict/\o.data=.dict es ep
section
variable{prog:Program}{w:World}{A:Around}{E:Z5}{s:Shared}{d:Addr}{es:Array DictEntry}{ep:Nat}
def zkA.at(x:zkA h d es ep)(e:∀o,h.get? d=some o->h'.get? d=some o):zkA h' d es ep:=let ⟨o,a,r⟩:=x;⟨o,e _ a,r⟩
def zkA.typeIs(x:zkA s.heap d es ep):s.TypeIs (.ref d) "dict":=let ⟨o,a,b,_⟩:=x;⟨o,a,b.1⟩
def zkA.lt(x:zkA h d es ep):d<h.objs.size:=let ⟨_,a,_⟩:=x;yao a
theorem zn7{Q:Z5}(hd:(d==sysModules)=false)(hm:zkA s.heap d es ep)
  (I:Q (.ref s.heap.objs.size) {s with heap:=s.heap.push {cls:=.type "dict_keyiterator",data:=.fields #[.ref d,.int 0 0,.int es.size 0,.int ep 0]}}):
  wpAny (model prog w) A (pyIter (.ref d)) Q E s:=by
 obtain⟨o,e,f,b⟩:=id hm;have c:=hm.typeIs;refine wpAny_pyIter_slot c PySem.F.slot_dict_iter (ya0 PySem.F.slot_dict_iter c PySem.F.entry_dict_iter ?_ (PySem.F.args_dict_iter_1 _));unfold Builtin.«dict.__iter__»;refine yaa ?_;unfold Builtin.Dict.dictSlotNone;refine yaa (wpAny_notOrdered_dict c ?_);refine yae (a:=Value.ref d) ?_;show wpAny _ _ (Builtin.Dict.showsAll d >>= _) _ _ s;unfold Builtin.Dict.showsAll;rw[if_neg (by rw[hd];exact yaS)];refine yaa (yae ?_);refine yaa (ydm e b ?_);refine yaa (wpAny_dictEpoch e b ?_);refine yaa (yaU (yae ⟨_,rfl,"dict_keyiterator",_,⟨_,yaq _ rfl,rfl⟩,ya5.lookup,?_⟩));simpa[rawInt]using I
theorem zn8{it:Addr}{i:Nat}{e:DictEntry}{Q:Option Value->Shared->Prop}(hit:s.heap.IsKeyIter it d i es.size ep)(hm:zkA s.heap d es ep)(I:es[i]?=some e)
  (J:∀h',h'.IsKeyIter it d (i+1) es.size ep->Heap.SameBut it s.heap h'->Q (some e.key) {s with heap:=h'}):wpAny (model prog w) A (pyNext (.ref it)) Q E s:=by
 obtain⟨o,f,j,hd⟩:=id hit;obtain⟨l,b,h,c⟩:=id hm;unfold pyNext
 refine yaa (yc1 (yaX (name:=Str.ofString "__next__") hit.typeIs ya5
  (ya0 ya5 hit.typeIs ycq ?_ (ycm _))))
 refine yaa (yae ?_);refine yaa (yaa ?_)
 first|refine yaa (ybu hit.typeIs (yae ?_))|refine yaa (ybU hit.typeIs (yae ?_))
 refine yaa (wpAny_fieldsOf f hd ?_);simp only[show Builtin.Dict_items.ownsTuple "dict_keyiterator"=false by decide,yaK,ybr];show wpAny _ _ (if(Value.ref d==Value.none)=true then _ else _) _ _ s;rw[if_neg (show ¬ ((Value.ref d==Value.none)=true)from yaS)];refine yaa (yae ?_);refine yaa (ydm b c ?_);rw[if_neg (by simp)];refine yaa (yae ?_);refine yaa (wpAny_dictEpoch b c ?_);rw[if_neg (by simp)];refine yae ?_;have g:i<es.size:=(ybE.mp I).1;have k:es[i]=e:=(ybE.mp I).2;simp only[show ¬ ((i:Int)<0)from by omega,ybr,yaO,ybf g];refine yaa ?_
 first|refine yaa (ybu hit.typeIs (yae ?_))|refine yaa (ybU hit.typeIs (yae ?_))
 refine yaa (wpAny_isOneOf_keyiter hit.typeIs ?_);show wpAny _ _ (setField (.ref it) 1 (rawInt ((i:Int)+1)) >>= _) _ _ s;refine yaa (ydh f hd (by simp) ?_)
 have a:(s.heap.update it (Obj.mapFields (·.setIfInBounds 1 (rawInt ((i:Int)+1))))).IsKeyIter it d (i+1) es.size ep:=
  ⟨_,ycc _ f (Obj.isFreed_of_fields (ycD hd _)),(Obj.cls_mapFields ..).trans j,by rw[ycD hd];simp[rawInt]⟩
 refine yaa (ybv ?_);refine yaa (wpAny_isOneOf_keyiter (s:={s with heap:=s.heap.update it (Obj.mapFields (·.setIfInBounds 1 (rawInt ((i:Int)+1))))}) a.typeIs ?_);show wpAny _ _ (pure es[i].key) _ _ _;rw[k];exact yae (yae ⟨_,rfl,yae (J _ a (Heap.SameBut.update ..))⟩)
theorem zqL{it:Addr}{i:Nat}{Q:Option Value->Shared->Prop}(J:A.handled=none)(hit:s.heap.IsKeyIter it d i es.size ep)(hm:zkA s.heap d es ep)(I:es.size<=i)
  (U:∀h',Heap.ExtBut it s.heap h'->Q none {s with heap:=h'}):wpAny (model prog w) A (pyNext (.ref it)) Q E s:=by
 obtain⟨o,f,j,hd⟩:=id hit;obtain⟨h,c,g,e⟩:=id hm;unfold pyNext
 refine yaa (yc1 (yaX (name:=Str.ofString "__next__") hit.typeIs ya5
  (ya0 ya5 hit.typeIs ycq ?_ (ycm _))))
 refine yaa (yae ?_);refine yaa (yaa ?_)
 first|refine yaa (ybu hit.typeIs (yae ?_))|refine yaa (ybU hit.typeIs (yae ?_))
 refine yaa (wpAny_fieldsOf f hd ?_);simp only[show Builtin.Dict_items.ownsTuple "dict_keyiterator"=false by decide,yaK,ybr];show wpAny _ _ (if(Value.ref d==Value.none)=true then _ else _) _ _ s;rw[if_neg (show ¬ ((Value.ref d==Value.none)=true)from yaS)];refine yaa (yae ?_);refine yaa (ydm c e ?_);rw[if_neg (by simp)];refine yaa (yae ?_);refine yaa (wpAny_dictEpoch c e ?_);rw[if_neg (by simp)];refine yae ?_;simp only[show ¬ ((i:Int)<0)from by omega,ybr,yaO,yb8 I];refine yaa ?_
 first|refine yaa (ybu hit.typeIs (yae ?_))|refine yaa (ybU hit.typeIs (yae ?_))
 show wpAny _ _ (setField (.ref it) 0 .none >>= _) _ _ s;refine yaa (ydh f hd (by simp) ?_);show wpAny _ _ (newExc (.type "StopIteration") [] >>= _) _ _ _;refine yaa ?_;simp only[newExc,newTuple];refine yaa (yaU ?_ (by size_fits));refine yaa (m:=firstArgMember _ _) (wpAny_of_eq (a:=Value.none) (by first|rfl|(simp only[firstArgMember];rfl)) ?_);refine yaU ?_ (by size_fits);simp only[raiseNew];refine yaa (wpAny_handled ?_);rw[show A.in1.handled=none from J];refine yaa (yae (wpAny_throw ?_));refine yaa (yco (T:="StopIteration") (b:=true) ⟨_,yaq _ rfl,rfl⟩ isSubtype_stop ?_);exact yae (U _ (((Heap.SameBut.update ..).extBut.push _).push _))
def zmb(U:A.handled=none)(I d:Addr)(J:d≠I)(es:Array DictEntry)(ep:Nat):
  Walks prog w A I [I,d] [I] es.size (fun i v=>∃e,es[i]?=some e/\v=e.key) (fun i h=>h.IsKeyIter I d i es.size ep/\zkA h d es ep)where
 sub:=fun b a=>by simp at a;simp[a]
 frame:=fun _ _ _ st k=>⟨st.1.at fun o e=>k I (by simp) o e,st.2.at fun o e=>k d (by simp) o e⟩
 item:=fun i s Q E hi st g=>by
  refine zn8 st.1 st.2 (ybf hi) fun h' f c=>?_
  exact g _ h' s.toks ⟨_,ybf hi,rfl⟩ ⟨f,st.2.at fun o e=>(c.2 d J).trans e⟩ fun b o a e=>c.extBut b o (fun h=>a (by simp[h])) e
 done:=fun s Q E st g=>zqL U st.1 st.2 (yag _) fun h' j=>g h' s.toks fun b o a e=>j b o (fun h=>a (by simp[h])) e
 self:=fun _ _ _ _ st g=>wpAny_pyIter_keyiter st.1 g
def zqK(lo:(d==sysModules)=false):KdlSrc prog w "dict" d d es.size (fun i v=>∃e,es[i]?=some e/\v=e.key) (fun h=>zkA h d es ep)where
 type:=fun _ hm=>hm.typeIs
 there:=fun _ hm=>⟨hm.lt,hm.lt⟩
 keep:=fun _ _ hm b=>hm.at fun o e=>b d (.inl rfl) o e
 notList:=by decide
 notTuple:=by decide
 hint:=fun _ _ _ _ hm a=>kdl_hint_dict hm.typeIs a
 iter:=fun _ _ c hm=>⟨_,_,(fun _ _ a=>zn7 lo hm a),zmb c _ d (yaz hm.lt) es ep,⟨⟨_,yaq _ rfl,rfl,rfl⟩,hm.at fun _ e=>yac _ e⟩⟩
theorem zjb{R:List Value->Shared->Prop}(J:A.handled=none)(lo:(d==sysModules)=false)(hm:zkA s.heap d es ep)(I:es.size<=sizeLine)
  (h:∀(h':Heap) (tk:Nat),(∀b o,s.heap.get? b=some o->h'.get? b=some o)->R (es.toList.map (·.key)) {s with heap:=h',toks:=tk}):
  wpAny (model prog w) A (collect (.ref d)) R E s:=by
 have hd:=hm.lt;unfold collect;refine yaa (wpAny_runValue (codeAny_builtin entry_proto_collect' ?_));rw[Around.under_plainId PySem.F.plain_proto_collect _];show wpAny _ A.in1 (newList [] >>= fun l=>again (.builtin "list.__iadd__" ⟨[l,.ref d],[]⟩)) _ _ s;refine yaa (yaU ?_);refine yae ⟨plainId_quiet PySem.F.plain_list_iadd _,codeAny_builtin entry_list_iadd' ?_⟩;rw[Around.under_plainId PySem.F.plain_list_iadd _];have j:(s.heap.push {cls:=.type "list",data:=.seq ([]:List Value).toArray}).get? s.heap.objs.size=some {cls:=.type "list",data:=.seq #[]}:=yaq _ rfl;show wpAny _ A.in1 (Builtin.List.listExtendWith (.ref s.heap.objs.size) (.ref d) (.ref s.heap.objs.size)) _ _ _
 have n:∀acc:Array Value,ItemsOf (fun i v=>∃e,es[i]?=some e/\v=e.key) acc es.size->acc.toList=es.toList.map (·.key):=fun acc p=>by
  apply yby;intro i;rw[yaw,ycS,ycS]
  by_cases hi:i<es.size
  ·have m:i<acc.size:=by rw[p.1];exact hi
   obtain⟨e,u,t⟩:=p.2 i acc[i] (ybf m);rw[ybf m,u,t];rfl
  ·rw[yb8 (by rw[p.1];omega),yb8 (by omega)];rfl
 have key:=kdl_extend (A:=A) (s:={s with heap:=s.heap.push {cls:=.type "list",data:=.seq ([]:List Value).toArray}}) (zqK (prog:=prog) (w:=w) (es:=es) (ep:=ep) lo)
  (R:=fun(q:Result) (s':Shared)=>∃(h':Heap) (tk:Nat) (a:Array Value) (c':Nat),q=.ok (.ret (.ref s.heap.objs.size))/\s'={s with heap:=h',toks:=tk} ∧
   (∀b o,s.heap.get? b=some o->h'.get? b=some o)/\h'.get? s.heap.objs.size=some {cls:=.type "list",dict:=none,data:=.seq a c',slots:=#[]}/\a.toList=es.toList.map (·.key))
  J (hm.at fun _ e=>yac _ e) s.heap.objs.size (yaQ hd) (yaQ hd) (.ref s.heap.objs.size) 0 j
  (fun h' tk a c' k g c=>⟨h',tk,a,c',rfl,rfl,fun b o e=>k b o (yaz (yao e)) (yac _ e),g,n _ c⟩) I
 refine ybl key (fun fin s' x=>?_) fun e s' x=>?_
 ·cases fin with
  |done f=>
   obtain⟨h',tk,a,c',e,rfl,k,g,c⟩:=x;cases e;show wpAny _ A (load s.heap.objs.size >>= _) _ _ _;refine yaa (wpAny_load g ?_);refine yae ?_;show R a.toList _;rw[c];exact h h' tk k
  |again c₁=>
   refine⟨x.1,ycR x.2 fun q r y=>?_⟩;obtain⟨h',tk,a,c',rfl,rfl,k,g,c⟩:=y;show wpAny _ A (load s.heap.objs.size >>= _) _ _ _;refine yaa (wpAny_load g ?_);refine yae ?_;show R a.toList _;rw[c];exact h h' tk k
 ·obtain⟨h',tk,a,c',e,_⟩:=x;cases e
end
theorem Okk.res{α:Type}{Q:α->Prop}:∀{t:KasT α},Okk n I t Q->∃a,Q a/\∀(cmp:Nat->Nat->(Bool->Shared->Prop)->Shared->Prop) (s:Shared) (G:α->Shared->Prop),(∀i j C,i<n->j<n->C (I i j) s->cmp i j C s)->G a s->t.kasWp cmp G s
 |.ret a,h=>⟨a,h,fun _ _ _ _ g=>g⟩|.ask i j k,h=>by
  obtain⟨a,q,f⟩:=Okk.res (t:=k (I i j)) h.2.2;exact⟨a,q,fun cmp s G b g=>b i j _ h.1 h.2.1 (f cmp s G b g)⟩
noncomputable abbrev IP:=Int×Int
noncomputable def zft(p:IP):Int:=p.1*4000001+p.2
noncomputable def smP(p:IP):Prop:=-1000000<=p.2/\p.2<=1000000
theorem zt7(J:smP p)(I:smP q):lxL p.1 p.2 q.1 q.2=decide (zft p<zft q):=by
 unfold lxL zft;unfold smP at J I;rw[decide_eq_decide];omega
theorem zmQ(J:smP p)(I:smP q)(h:zft p=zft q):p=q:=by
 obtain⟨a,b⟩:=p;obtain⟨c,d⟩:=q;unfold zft at h;unfold smP at J I
 have h1:a=c:=by simp only at h J I;omega
 have h2:b=d:=by simp only at h J I;omega
 rw[h1,h2]
noncomputable def zvb(h:Heap)(x:Addr×IP):Prop:=∃t u,h.IsTuple x.1 #[.int x.2.1 t,.int x.2.2 u]
noncomputable abbrev rfs(vs:List (Addr×IP)):List Value:=vs.map fun x=>Value.ref x.1
theorem znb:∀{vs:List (Addr×IP)},(∀x∈vs,zvb h x)->∃fs,KatTups h (rfs vs) fs/\fs.length=vs.length/\∀v∈fs,∃i t,v=.int i t
 |[],_=>⟨[],KatTups.nil,rfl,fun v a=>nomatch a⟩|x::vs,b=>by
  obtain⟨t,u,o,e,c,n,d⟩:=b x (.head _);obtain⟨fs,h1,h2,g⟩:=znb (vs:=vs) fun y f=>b y (.tail _ f)
  refine⟨.int x.2.1 t::fs,KatTups.cons e c d rfl h1,congrArg Nat.succ h2,fun v a=>?_⟩
  rcases yan.mp a with rfl|a
  ·exact⟨_,_,rfl⟩
  ·exact g v a
section
variable{prog:Program}{w:World}{A:Around}{E:Z5}{s:Shared}
theorem znU(I:vs.length<64)(hs:∀x∈vs,smP x.2)(nd:(vs.map (·.2)).Nodup):∃out:List (Addr×IP),out.Perm vs/\(out.map fun x=>zft x.2).Pairwise (· < ·) ∧
  ∀(A:Around) (E:Z5) (s:Shared) (n:Nat) (P:PySem.Fin->Shared->Prop),s.heap.get? B=some (seqObj "list" (rfs vs).toArray n)->(∀x∈vs,zvb s.heap x)->P (.done (.ret .none)) {s with heap:=sortedHeap s.heap B (rfs vs) (rfs out).toArray}->wpAny (model prog w) A (Builtin.«list.sort» ⟨[.ref B],[]⟩) P E s:=by
 by_cases h2:2<=vs.length
 ·let key:Nat->Int:=fun i=>zft (vs.getD i (0,0,0)).2
  have gd:∀i,i<vs.length->vs.getD i (0,0,0)=vs[i]!:=fun i hi=>by rw[yaD,List.getElem!_eq_getElem?_getD];rfl
  have ge:∀i (hi:i<vs.length),vs.getD i (0,0,0)=vs[i]:=fun i hi=>by rw[yaD,yad hi];rfl
  have inj:∀i j,i<vs.length->j<vs.length->key i=key j->i=j:=by
   intro i j hi b e
   have H:zft vs[i].2=zft vs[j].2:=by rw[<-ge i hi,<-ge j b];exact e
   have t:=zmQ (hs _ (ybe hi)) (hs _ (ybe b)) H;have np:=List.pairwise_iff_getElem.mp nd
   rcases Nat.lt_trichotomy i j with d|he|h
   ·exact absurd (by rw[ybH,ybH];exact t) (np i j (by rw[yaf];exact hi) (by rw[yaf];exact b) d)
   ·exact he
   ·exact absurd (by rw[ybH,ybH];exact t.symm) (np j i (by rw[yaf];exact b) (by rw[yaf];exact hi) h)
  obtain⟨p,⟨m,v⟩,u⟩:=Okk.res (zuf h2 inj);have d:∀i∈p.toList,i<vs.length:=fun i hi=>ybd.mp (m.mem_iff.mp hi)
  refine⟨p.toList.map fun i=>vs.getD i (0,0,0),?_,?_,?_⟩
  ·have:=m.map fun i=>vs.getD i (0,0,0)
   refine this.trans (List.Perm.of_eq ?_);apply List.ext_getElem
   ·rw[yaf,ybo]
   ·intro i h1 h2;rw[ybH,List.getElem_range,ge i h2]
  ·rw[ybh];exact v
  ·intro A E s n P g a f;obtain⟨fs,t1,J,t3⟩:=znb a
   have F:(rfs (p.toList.map fun i=>vs.getD i (0,0,0))).toArray=List.toArray (p.toList.map fun i=>(rfs vs).getD i Value.none):=by
    congr 1;unfold rfs;rw[ybh];apply List.map_congr_left;intro i hi;have q:=d i hi;show Value.ref (vs.getD i (0,0,0)).1=_;rw[ge i q,yaD,yaw,yad q];rfl
   rw[F]at f;refine zlN (fs:=fs) (p:=p) g (by unfold rfs;rw[yaf];exact h2) (by unfold rfs;rw[yaf];exact I) t1 (by omega) t3 (fun s' G k z=>?_) f;rw[show(rfs vs).length=vs.length from yaf ..];refine u _ s' G (fun i j C hi b D=>?_) z;obtain⟨a1,a2,x1⟩:=a vs[i] (ybe hi);obtain⟨L,K,x2⟩:=a vs[j] (ybe b);have up:∀{x:Addr}{xs:Array Value},s.heap.IsTuple x xs->s'.heap.IsTuple x xs:=fun⟨o,e,c,r⟩=>⟨o,k _ _ e c,c,r⟩
   refine zpa (x:=vs[i].1) (y:=vs[j].1) (by rw[yaD,yaw,yad hi];rfl) (by rw[yaD,yaw,yad b];rfl) (up x1) (up x2) ?_;rw[zt7 (hs _ (ybe hi)) (hs _ (ybe b))]
   have:ansK key i j=decide (zft vs[i].2<zft vs[j].2):=by
    show decide (zft (vs.getD i (0,0,0)).2<zft (vs.getD j (0,0,0)).2)=_;rw[ge i hi,ge j b]
   rw[<-this];exact D
 ·refine⟨vs,List.Perm.refl _,?_,fun A E s n P g a f=>znT g (by unfold rfs;rw[yaf];omega) f⟩
  cases vs with
  |nil=>exact .nil|cons x l=>
   cases l with
   |nil=>exact List.pairwise_singleton _ _|cons y l=>exact absurd (by simp) h2
theorem zlM{r:Addr}{vs:List (Addr×IP)}{Q:Z5}(U:vs.length<64)(hs:∀x∈vs,smP x.2)(nd:(vs.map (·.2)).Nodup)(J:∀x∈vs,zvb s.heap x)
  (I:∀{R:List Value->Shared->Prop},(∀(h':Heap) (tk:Nat),(∀b o,s.heap.get? b=some o->h'.get? b=some o)->R (rfs vs) {s with heap:=h',toks:=tk})->wpAny (model prog w) A.in1 (collect (.ref r)) R E s)
  (hQ:∀(out:List (Addr×IP)) (hm h':Heap) (tk e:Nat),out.Perm vs->(out.map fun x=>zft x.2).Pairwise (· < ·)->(∀b o,s.heap.get? b=some o->hm.get? b=some o)->(∀b o,hm.get? b=some o->h'.get? b=some o)->h'.get? hm.objs.size=some (seqObj "list" (rfs out).toArray e)->Q (.ref hm.objs.size) {s with heap:=h',toks:=tk}):
  wpAny (model prog w) A (call (.builtin "sorted") [.ref r]) Q E s:=by
 refine Calls.call_function_entry kind_sorted plain_sorted entry_sorted (args_sorted1 _) ?_;unfold Builtin.«sorted»;refine yaa (m:=checkCount "sorted" 1 1 _) (yae ?_);refine yaa (I fun h' tk f=>?_)
 have k:(rfs vs).length<=sizeLine:=by unfold rfs;rw[yaf,ybM];omega
 refine yaa (wpAny_newList ?_ k);have a:(h'.push (seqObj "list" (rfs vs).toArray 0)).get? h'.objs.size=some (seqObj "list" (rfs vs).toArray 0):=yaq _ rfl;obtain⟨out,j,i,h⟩:=znU (prog:=prog) (w:=w) (B:=h'.objs.size) U hs nd;refine yaa (ybv (ya0 slot_list_sort ⟨_,a,rfl⟩ entry_list_sort (h _ _ {s with heap:=h'.push (seqObj "list" (rfs vs).toArray 0),toks:=tk} 0 _ a (fun x l=>?_) ⟨_,rfl,?_⟩) (args_list_sort _)))
 ·obtain⟨t,u,o,e,c⟩:=J x l;exact⟨t,u,o,yac _ (f _ _ e),c⟩
 refine yae ⟨_,rfl,?_⟩;obtain⟨e,he⟩:=sortedHeap_at (out:=(rfs out).toArray) a
 have old:∀b o,h'.get? b=some o->(sortedHeap (h'.push (seqObj "list" (rfs vs).toArray 0)) h'.objs.size (rfs vs) (rfs out).toArray).get? b=some o:=fun b o g=>by
  have d:b<h'.objs.size:=yao g;rw[sortedHeap_old (yaz d) (by rw[size_push'];exact ydl d)];exact yac _ g
 exact hQ out h' _ tk e j i f old he
end
end ST
namespace L2
open PySem PySem.Spec PySem.W PyProof.Rows ST
section
variable{X:Cx}{pins:Z3}{σ:St}{H:Hp}{s:Shared}
def Inv.pr(I:Inv X pins σ H s)(h:SqT X.K H x.1 [.int x.2.1,.int x.2.2]):zvb s.heap x:=by
 obtain⟨ts,rt,pt,_⟩:=I.tuple h
 cases rt with
 |cons c1 rt=>
  cases rt with
  |cons b rt=>
   cases rt;obtain⟨t1,rfl⟩:=c1;obtain⟨a,rfl⟩:=b;exact⟨t1,a,pt⟩
theorem zh0:∀vs:List (Addr×IP),Vals (vs.map fun x=>V.ref x.1) (rfs vs)
 |[]=>.nil|x::vs=>.cons rfl (zh0 vs)
theorem ziP(U:X.calm=true):zeC X (.builtin "sorted") (fun xs H Q=>∃(p J:Addr) (ps:List PA2),xs=[.ref p]/\H p=some (.ext (DP X.prog X.w J ps))/\KsP H ps/\ps.length<64/\(∀x∈ps,smP x.1)/\(ps.map (·.1)).Nodup ∧
  ∀(l:Addr) (out:List (Addr×IP)),H l=none->out.Perm (ps.map fun x=>(x.2,x.1))->(out.map fun x=>zft x.2).Pairwise (· < ·)->Q (.ref l) (upd H l (.lst (out.map fun x=>.ref x.1)))):=by
 intro pins s σ H xs us Q I r h;obtain⟨p,J,ps,rfl,g,n,d,hs,nd,q⟩:=h;obtain⟨u,rfl,j⟩:=zh2 r;cases j;obtain rfl:=I.dp_addr g;obtain⟨⟨o,es,ep,h1,h2,A,h4,_,z⟩,_⟩:=I.hok _ _ g;have b:zkA s.heap J es ep:=⟨o,h1,h2,A⟩
 have C:es.toList.map (·.key)=rfs (ps.map fun x=>(x.2,x.1)):=by
  rw[h4];unfold xsP rfs;rw[ybh,ybh,ybh];rfl
 have hsz:es.size<=sizeLine:=by
  have:=congrArg List.length h4;rw[ya7,yaf,xsP,yaf]at this;rw[this,ybM];omega
 have B:(ps.map fun x=>((x.2,x.1):Addr×IP)).map (·.2)=ps.map (·.1):=by rw[ybh];rfl
 refine zlM (vs:=ps.map fun x=>(x.2,x.1)) (by rw[yaf];exact d) (fun y c=>?_) (by rw[B];exact nd) (fun y c=>?_) (fun {R} t=>zjb (I.ok.hd U) z b hsz fun h' tk k=>by rw[C];exact t h' tk k) fun out hm h' tk e f m k1 k2 v=>?_
 ·obtain⟨x,a,rfl⟩:=yat.mp c;exact hs x a
 ·obtain⟨x,a,rfl⟩:=yat.mp c;exact I.pr (SqT.of (n x a))
 ·have i:Inv X pins σ H {s with heap:=hm,toks:=tk}:=I.kept k1;refine⟨.ref hm.objs.size,_,i.laid (h':=h') (t':=tk) (o:=.lst (out.map fun x=>.ref x.1)) k2 (yag _) ⟨?_,rfs out,e,zh0 out,v⟩,rfl,q _ _ (i.hok.fresh (yag _)) f m⟩;rw[yaf,f.length_eq,yaf,ybM];omega
end
end L2
namespace S2
open PySem PySem.Spec PyProof.Rows L2 ST
noncomputable def pD(p:IP):D:=.tup [.int p.1,.int p.2]
def zj5:zf7 (pD p)=some p:=rfl
def zj6(h:zf7 d=some p):d=pD p:=by
 unfold zf7 at h;split at h
 ·cases h;rfl
 ·cases h
def zr6(p:IP):List IP->List IP
 |[]=>[p]|q::l=>if zft p<zft q then p::q::l else q::zr6 p l
noncomputable def zfu:List IP->List IP|[]=>[]|p::l=>zr6 p (zfu l)
theorem zgk:∀l:List IP,(zr6 p l).Perm (p::l)
 |[]=>List.Perm.refl _|q::l=>by
  unfold zr6;split
  ·exact List.Perm.refl _
  ·exact((zgk l).cons q).trans (List.Perm.swap p q l)
theorem zdi:∀l:List IP,(zfu l).Perm l
 |[]=>List.Perm.refl _|p::l=>(zgk _).trans ((zdi l).cons p)
theorem zkk:∀{l:List IP},(l.map zft).Pairwise (· < ·)->(∀q∈l,zft q≠zft p)->((zr6 p l).map zft).Pairwise (· < ·)
 |[],_,_=>List.pairwise_singleton _ _|q::l,h,d=>by
  rw[yav,yb9]at h;unfold zr6;split
  ·rename_i a;rw[yav,yav,yb9,yb9];refine⟨fun x b=>?_,h⟩
   rcases yan.mp b with rfl|b
   ·exact a
   ·exact ycU a (h.1 x b)
  ·rename_i a;rw[yav,yb9];refine⟨fun x b=>?_,zkk h.2 fun r c=>d r (.tail _ c)⟩;obtain⟨r,c,rfl⟩:=yat.mp b;have:=(zgk l).mem_iff.mp c
   rcases yan.mp this with rfl|c
   ·have:=d q (.head _);omega
   ·exact h.1 _ (yat.mpr ⟨r,c,rfl⟩)
theorem zg2:∀{l:List IP},(l.map zft).Nodup->((zfu l).map zft).Pairwise (· < ·)
 |[],_=>.nil|p::l,h=>by
  rw[yav,ybk]at h;refine zkk (zg2 h.2) fun q a e=>h.1 ?_
  have:=(zdi l).mem_iff.mp a;exact yat.mpr ⟨q,this,e⟩
theorem zjM{α:Type}(k:α->Int):∀{l m:List α},(l.map k).Pairwise (· < ·)->(m.map k).Pairwise (· < ·)->l.Perm m->l=m
 |[],m,_,_,h=>(List.Perm.nil_eq h)|a::l,[],_,_,h=>by have:=h.length_eq;cases this
 |a::l,b::m,h1,h2,h=>by
  rw[yav,yb9]at h1 h2
  have e:a=b:=by
   have d:=h.mem_iff.mp (yay (a:=a) (l:=l));have c:=h.mem_iff.mpr (yay (a:=b) (l:=m))
   rcases yan.mp d with e|d
   ·exact e
   ·rcases yan.mp c with e|c
    ·exact e.symm
    ·have x1:=h1.1 _ (yat.mpr ⟨b,c,rfl⟩);have x2:=h2.1 _ (yat.mpr ⟨a,d,rfl⟩);exact absurd (ycU x1 x2) (Int.lt_irrefl _)
  subst e;rw[zjM k h1.2 h2.2 (List.Perm.cons_inv h)]
noncomputable def zpD(ps:List IP):Bool:=decide (ps.length<64)&&ps.all (fun p=>decide (-1000000<=p.2/\p.2<=1000000))&&decide ps.Nodup
def zmD(h:zpD ps=true):ps.length<64/\(∀p∈ps,smP p)/\ps.Nodup:=by
 unfold zpD at h;rw[yab,yab,ybG]at h;exact⟨yai h.1.1,fun p a=>(yai (h.1.2 p a):-1000000<=p.2/\p.2<=1000000),yai h.2⟩
def ztF{ps:List IP}{out:List (Addr×IP)}{vs:List (Addr×IP)}(I:vs.map (·.2)=ps)(ok:zpD ps=true)(J:out.Perm vs)(hs:(out.map fun x=>zft x.2).Pairwise (· < ·)):out.map (·.2)=zfu ps:=by
 obtain⟨_,c,nd⟩:=zmD ok;refine zjM zft (by rw[ybh];exact hs) (zg2 ?_) (((J.map (·.2)).trans (List.Perm.of_eq I)).trans (zdi ps).symm);unfold List.Nodup at nd ⊢;rw[List.pairwise_map];exact List.Pairwise.imp_of_mem (fun {a b} f d h e=>h (zmQ (c a f) (c b d) e)) nd
section
variable{X:Cx}{cl:Cf}{E:St->XK}{a e:Expr}{f:Fe}{i j:Nat}{x y:Str}{p px ap cp pos pos':Pos}{own:Bool}{w:Wd}
theorem zjO:∀{out:List (Addr×IP)},(∀x∈out,Shd cl w (.ref x.1) (pD x.2))->Shds cl w (out.map fun x=>V.ref x.1) ((out.map (·.2)).map pD)
 |[],_=>.nil|x::out,h=>.cons (h x (.head _)) (zjO fun y a=>h y (.tail _ a))
def zfM(ps:List IP):D:=.dic ((.bl true,.non)::pdD ps)
def psX:List (D×D)->Option (List IP)
 |[]=>some []|(d,.bl true)::l=>(zf7 d).bind fun p=>(psX l).bind fun ps=>some (p::ps)|_=>none
theorem zj0:∀ps:List IP,psX (pdD ps)=some ps
 |[]=>rfl|p::ps=>by
  show(psX (pdD ps)).bind _=_;rw[zj0 ps];rfl
theorem zpu:∀{ds:List (D×D)}{ps:List IP},psX ds=some ps->ds=pdD ps
 |[],ps,h=>by cases h;rfl
 |(d,v)::l,ps,h=>by
  cases v with
  |bl b=>
   cases b with
   |true=>
    obtain⟨p,h1,h⟩:=yb0.mp (show((zf7 d).bind fun p=>(psX l).bind fun ps=>some (p::ps))=some ps from h);obtain⟨a,h2,h⟩:=yb0.mp h;cases h;rw[zpu h2,zj6 h1];rfl
   |false=>cases h
  |_=>cases h
noncomputable def zoR:D->Option (List IP)|.dic ((.bl true,.non)::ds)=>psX ds|_=>none
def zoQ(h:zoR d=some ps):d=zfM ps:=by
 unfold zoR at h;split at h
 ·rw[zpu h];rfl
 ·cases h
def zhj(i:Nat)(ρ:Env):Option (Bool×List IP):=match ρ[i]? with|some (some (o,d))=>(zoR d).map fun ps=>(o,ps)|_=>none
def zhi(h:zhj i ρ=some (o,ps)):ρ[i]?=some (some (o,zfM ps)):=by
 unfold zhj at h;split at h
 ·rename_i o' d e
  cases hd:zoR d with
  |none=>rw[hd]at h;cases h|some x=>rw[hd]at h;cases h;rw[e,zoQ hd]
 ·cases h
def zpR(h:Exd cl w o (pdD ps)):∃I xs,o=.ext (DP cl.P cl.wo I xs)/\xs.map (·.1)=ps/\∀x∈xs,w.H x.2=some (.tup [.int x.1.1,.int x.1.2])/\w.ow x.2=none:=by
 generalize b:pdD ps=ds at h
 cases h with
 | @pd a xs h=>
  have:=congrArg psX b;rw[zj0,zj0]at this;exact⟨a,xs,rfl,(Option.some.inj this).symm,h⟩
def Rel.dcx(R:Rel cl B σ w ρ S)(h:ρ[i]?=some (some (o,zfM ps))):∃a I xs,σ[i]?=some (some (.ref a))/\(o=true->w.ow a=some (.slot i))/\w.H a=some (.ext (DP cl.P cl.wo I xs))/\xs.map (·.1)=ps/\∀x∈xs,w.H x.2=some (.tup [.int x.1.1,.int x.1.2])/\w.ow x.2=none:=by
 obtain⟨v,c,r⟩:=R.slots i o _ h
 cases o with
 |false=>
  have r':Shd cl w v (.dic ((.bl true,.non)::pdD ps)):=r;generalize b:pdD ps=q at r'
  cases r' with
  |dicX e _ x=>
   rw[<-b]at x;obtain⟨I,xs,rfl,h1,h2⟩:=zpR x;exact⟨_,I,xs,c,(fun z=>nomatch z),e,h1,h2⟩
 |true=>
  obtain⟨a,o,rfl,h1,h2,t⟩:=r;have t':Top cl w o (.dic ((.bl true,.non)::pdD ps)):=t;generalize b:pdD ps=q at t'
  cases t' with
  |dicX x=>
   rw[<-b]at x;obtain⟨I,xs,rfl,g1,g2⟩:=zpR x;exact⟨a,I,xs,c,fun _=>h1,h2,g1,g2⟩
noncomputable def zfR(i:Nat)(ρ:Env):Option IP:=match ρ[i]? with|some (~~~d)=>zf7 d|_=>none
def zic{i:Nat}{ρ:Env}{p:IP}(h:zfR i ρ=some p):ρ[i]?=some (~~~pD p):=by
 unfold zfR at h;split at h
 ·rename_i d e;rw[e,zj6 h]
 ·cases h
def zg8(i:Nat):Fe:=fun ρ S=>match zfR i ρ with|some p=>.ok (zfM [p]) S|none=>.bad
def znY(hu:X.A.units+1<cLine)(J:Same' cl X)(hN:X.N[i]?=some x)(U:Vis X.env.scope x)(hd:(x==("__debug__":Str))=false)(I:(x==("__classdict__":Str))=false):
  PE X (.Dict [some (.Name x px)] [.Constant (.bool true) kk pc] pos) (tN cl E (zg8 i)):=by
 refine PE.imp (zor hu (za0 hN U hd I) zqZ) ?_;rintro σ H Q ⟨B,w,ρ,S,rfl,R,q⟩;intro d a;unfold zg8 at q
 cases hs:zfR i ρ with
 |none=>rw[hs]at q;exact q.elim|some p=>
  rw[hs]at q;obtain⟨v,l,r⟩:=R.slots i false _ (zic hs);have r':Shd cl w v (pD p):=r;obtain⟨kb,rfl,e⟩:=zf6 r' zj5
  have g:w.ow kb=none:=by
   have f:Shd cl w (.ref kb) (.tup [.int p.1,.int p.2]):=r'
   cases f with
   |tup _ k _=>exact k
  refine⟨_,l,kb,p,rfl,rfl,by rw[zai (zal e a)];exact e,zan,?_⟩
  have j:upd (upd w.H d (.ext (DP X.prog X.w d []))) d (.ext (DP X.prog X.w d [(p,kb)]))=upd w.H d (.ext (DP X.prog X.w d [(p,kb)])):=by
   funext b;unfold upd
   by_cases c:b=d
   ·rw[if_pos c,if_pos c]
   ·rw[if_neg c,if_neg c,if_neg c]
  rw[j,J.pp,J.ww];refine q d _ w R (Fut.refl _) a (.dicX (ds:=pdD [p]) ?_)
  exact Exd.pd (xs:=[(p,kb)]) fun y h=>by
   rcases yaI.mp h with rfl
   exact⟨e,g⟩
def ziL(i:Nat)(f:Fe):Fe:=fun ρ S=>match zhj i ρ with
 |some q=>(f ρ S).bind fun k S1=>(match zf7 k with|some p=>.ok (.bl (!decide (p∈q.2))) S1|none=>.bad)
 |none=>.bad
def zpF(J:Same' cl X)(σ:St)(H:Hp)(Q:VK)(q:tE cl E (ziL i f) σ H Q):
  tOp (fun x y H Q=>∃(kb a I:Addr) (p:Int×Int) (xs:List PA2),x=.ref kb/\y=.ref a/\H kb=some (.tup [.int p.1,.int p.2])/\H a=some (.ext (DP X.prog X.w I xs))/\KsP H xs/\Q (.bl (!decide (p∈xs.map (·.1)))) H) (tE cl E f) (zhX i) σ H Q:=by
 obtain⟨B,w,ρ,S,rfl,R,q⟩:=q;refine⟨B,w,ρ,S,rfl,R,?_⟩;unfold ziL at q
 cases hs:zhj i ρ with
 |none=>rw[hs]at q;exact q.elim|some g=>
  obtain⟨o,ps⟩:=g;rw[hs]at q;dsimp only at q
  cases hf:f ρ S with
  |bad=>rwa[hf]at q|exc c S1=>rwa[hf]at q|ok k S1=>
   rw[hf]at q;dsimp only[Out.bind]at q;intro v e d F1 h1;obtain⟨a,I,xs,m,_,h2,l,h4⟩:=d.dcx (zhi hs)
   cases b:zf7 k with
   |none=>rw[b]at q;exact q.elim|some p=>
    rw[b]at q;obtain⟨kb,rfl,j⟩:=zf6 h1 b;refine⟨_,m,kb,a,I,p,xs,rfl,rfl,j,by rw[J.pp,J.ww];exact h2,fun y h=>(h4 y h).1,?_⟩;rw[l];exact q (.bl _) e d F1 (.bl _)
def zqB(hu:X.A.units+1<cLine)(J:Same' cl X)(hN:X.N[i]?=some x)(U:Vis X.env.scope x)(hd:(x==("__debug__":Str))=false)(I:(x==("__classdict__":Str))=false)(ha:PE X a (tE cl E f)):PE X (.Compare a [.NotIn] [.Name x px] pos) (tE cl E (ziL i f)):=
 PE.imp (zjh (zmA hu) ha (za0 hN U hd I) rfl) (zpF J)
def zqi(hu:X.A.units+1<cLine)(J:Same' cl X)(hN:X.N[i]?=some x)(U:Vis X.env.scope x)(hd:(x==("__debug__":Str))=false)(I:(x==("__classdict__":Str))=false)(ha:PE X a (tE cl E f)):PT X (.Compare a [.NotIn] [.Name x px] pos) (tTr cl E (ziL i f)):=
 PT.imp (zjf (zmA hu) ha (za0 hN U hd I) rfl) fun _ _ _ q=>zpF J _ _ _ (zh6 q)
def zkM(i j:Nat):Fs:=fun ρ S=>match zhj i ρ,zfR j ρ with
 |some (true,ps),some p=>if p ∉ ps/\ps.length<=100000 then .nx (ρ.set i (some (true,zfM (ps++[p])))) S else .bad
 |_,_=>.bad
def zql(hu:X.A.units+1<cLine)(J:Same' cl X)(hN:X.N[i]?=some x)(hv:Vis X.env.scope x)(hd:(x==("__debug__":Str))=false)(a4:(x==("__classdict__":Str))=false)(a5:X.N[j]?=some y)(U:Vis X.env.scope y)(a3:(y==("__debug__":Str))=false)(I:(y==("__classdict__":Str))=false):
  PS X (.Assign [.Subscript (.Name x px) (.Name y py) p3] (.Constant (.bool true) kk pc) pos) (tS cl E own (zkM i j)):=by
 refine PS.imp (zmi (zqZ (b:=true)) (zpw (za0 hN hv hd a4) (za0 a5 U a3 I) (znW hu)) rfl rfl rfl) ?_;rintro De σ H ⟨B,w,ρ,S,rfl,R,q⟩;unfold zkM at q;split at q
 ·rename_i ps p hs n;split at q
  ·rename_i e;obtain⟨a,d,xs,h,h1,h2,f,h4⟩:=R.dcx (zhi hs);obtain⟨v,s,r⟩:=R.slots j false _ (zic n);have r':Shd cl w v (pD p):=r;obtain⟨kb,rfl,g⟩:=zf6 r' zj5
   have m:w.ow kb=none:=by
    have l:Shd cl w (.ref kb) (.tup [.int p.1,.int p.2]):=r'
    cases l with
    |tup _ k _=>exact k
   have hlen:xs.length<=100000:=by rw[<-f,yaf]at e;exact e.2
   refine⟨_,h,_,s,a,d,kb,p,xs,rfl,rfl,rfl,g,by rw[J.pp,J.ww];exact h2,fun y c=>(h4 y c).1,by rw[f];exact e.1,yak hlen (by decide),?_⟩;rw[J.pp,J.ww];have o:Fut w (w.mut a (.ext (DP cl.P cl.wo d (xs++[(p,kb)])))):=zdj (by rw[h1 rfl];exact yaE _)
   have ex:Exd cl w (.ext (DP cl.P cl.wo d (xs++[(p,kb)]))) (pdD (ps++[p])):=by
    have:=Exd.pd (cl:=cl) (w:=w) (a:=d) (xs:=xs++[(p,kb)]) fun y c=>by
     rcases ybj.mp c with c|c
     ·exact h4 y c
     ·rcases yaI.mp c with rfl
      exact⟨g,m⟩
    rwa[ybC,f]at this
   exact q σ _ (R.mut (d0:=.non) h (h1 rfl) (.dicX ex)) o
  ·exact q.elim
 ·exact q.elim
def zk8(i:Nat):Fe:=fun ρ S=>match zhj i ρ with
 |some q=>if zpD q.2 then .ok (.lst ((zfu q.2).map pD)) S else .bad
 |none=>.bad
theorem zlT(hc:X.calm=true)(J:Same' cl X)(hg:Gl X "sorted")(hm:X.mg "sorted"=none)(hN:X.N[i]?=some x)(U:Vis X.env.scope x)(hd:(x==("__debug__":Str))=false)(I:(x==("__classdict__":Str))=false):
  PE X (.Call (.Name "sorted" p) [.Name x px] [] pos) (tN cl E (zk8 i)):=by
 refine PE.imp (zbA (ziP hc) hg hm (by decide +kernel) (zam (za0 hN U hd I) zaQ)) ?_;rintro σ H Q ⟨B,w,ρ,S,rfl,R,q⟩;unfold zk8 at q
 cases hs:zhj i ρ with
 |none=>rw[hs]at q;exact q.elim|some h=>
  obtain⟨o,ps⟩:=h;rw[hs]at q;dsimp only at q
  cases ok:zpD ps with
  |false=>rw[ok]at q;exact q.elim|true=>
   rw[ok,if_pos rfl]at q;obtain⟨a,n,xs,m,_,h2,d,h4⟩:=R.dcx (zhi hs);obtain⟨c,e,nd⟩:=zmD ok;refine⟨_,m,a,n,xs,rfl,by rw[J.pp,J.ww];exact h2,fun y b=>(h4 y b).1,by rw[<-d,yaf]at c;exact c,fun y b=>e _ (by rw[<-d];exact yat.mpr ⟨y,b,rfl⟩),by rw[d];exact nd,fun l out k f j=>?_⟩;refine q l (.lst (out.map fun x=>V.ref x.1)) w R (Fut.refl _) k (.lst ?_);rw[<-ztF (vs:=xs.map fun x=>(x.2,x.1)) (by rw[ybh];exact d) ok f j];refine zjO fun y b=>?_
   obtain⟨z,g,rfl⟩:=yat.mp (f.mem_iff.mp b);exact .tup (h4 z g).1 (h4 z g).2 (.cons (.int _) (.cons (.int _) .nil))
noncomputable def zr0(i j:Nat):Fs:=fun ρ S=>match ρ[j]? with
 |some (some (true,.lst l))=>(match l.getLast? with|some d=>.nx ((ρ.set j (some (true,.lst l.dropLast))).set i (~~~d)) S|none=>.bad)
 |_=>.bad
def zlQ{vs:List V}{ds:List D}{d:D}(h:Shds cl w vs ds):ds.getLast?=some d->∃v,vs[vs.length-1]?=some v/\Shd cl w v d/\Shds cl w vs.dropLast ds.dropLast:=
 h.ind (p:=fun vs ds=>ds.getLast?=some d->∃v,vs[vs.length-1]?=some v/\Shd cl w v d/\Shds cl w vs.dropLast ds.dropLast) (fun h=>nomatch h) fun {v _ _ _} r t a h=>by
  cases t with
  |nil=>cases h;exact⟨v,rfl,r,.nil⟩|cons b t=>
   rw[List.getLast?_cons_cons]at h;obtain⟨u,e,s1,s2⟩:=a h;exact⟨u,e,s1,.cons r s2⟩
def zsE(hN:X.N.Nodup)(hi:X.N[i]?=some x)(U:Loc X.env.scope x)(hf:X.fn x=true\/X.env.scope.names.lookup x=some .local)(hj:X.N[j]?=some y)(hv:Vis X.env.scope y)(hd:(y==("__debug__":Str))=false)(J:(y==("__classdict__":Str))=false)(I:(ap.endLine==cp.line)=true):
  PS X (.Assign [.Name x px] (.Call (.Attribute (.Name y pos') "pop" ap) [] [] cp) pos) (tS cl E own (zr0 i j)):=by
 refine PS.imp (zis hN hi U (zmu yaY PySem.F.slot_list_pop PySem.F.type_list_pop zpG (za0 hj hv hd J) (aa:=I)) rfl hf) ?_;rintro De σ H ⟨B,w,ρ,S,rfl,R,q⟩;unfold zr0 at q;split at q
 ·rename_i l g;obtain⟨a,xs,e,h1,h2,t⟩:=R.list g
  cases b:l.getLast? with
  |none=>rw[b]at q;exact q.elim|some d=>
   rw[b]at q;dsimp only at q;obtain⟨v,ev,f,st⟩:=zlQ t b;have c:Fut w (w.mut a (.lst xs.dropLast)):=zdj (by rw[h1];exact yaE _);refine⟨_,e,.inl ⟨rfl,_,SqL.of h2⟩,a,xs,v,rfl,rfl,h2,ev,?_⟩;exact q _ _ ((R.mut (d0:=.non) e h1 (.lst st)).put (f.up c)) c
 ·exact q.elim
end
open PySem PySem.Spec PyProof.Rows L2
section
variable{cl:Cf}{w:Wd}{n:Nat}{B:Base}{σ:St}{ρ:Env}{S:Sto}
def Rel.newo(R:Rel cl B σ w ρ S)(hn:S[n]?=some ob)(J:w.mu[n]?=some a)(how:w.ow a=some (.obj n))(U:w.H a=some (.ins (cl ob.cls) dx fs))(hF:zda cl w n fs ob.fs)(I:w.H p=none)(ht:Top cl w o0 d0):
  Rel cl B σ ((w.addF p o0 n f).mut a (.ins (cl ob.cls) dx (zde f (.ref p) fs))) ρ (S.set n (ob.put f true (.tup [d0])))/\Fut w ((w.addF p o0 n f).mut a (.ins (cl ob.cls) dx (zde f (.ref p) fs))):=by
 have k:a≠p:=zal U I
 have kp:∀b u,w.H b=some u->w.ow b≠some (.obj n)->((w.addF p o0 n f).mut a (.ins (cl ob.cls) dx (zde f (.ref p) fs))).H b=some u/\((w.addF p o0 n f).mut a (.ins (cl ob.cls) dx (zde f (.ref p) fs))).ow b=w.ow b:=fun b u c d=>by
  have j:b≠p:=zal c I;refine⟨?_,?_⟩
  ·show upd (upd w.H p _) a _ b=_;rw[zai (fun z=>d (by rw[z];exact how)),zai j];exact c
  ·show(if b=p then _ else w.ow b)=_;rw[if_neg j]
 have l:Fut w ((w.addF p o0 n f).mut a (.ins (cl ob.cls) dx (zde f (.ref p) fs))):=⟨fun b u c D=>by
  have:=kp b u c (by rw[D];exact fun z=>by cases z)
  exact⟨this.1,this.2.trans D⟩,fun _ _ h=>h⟩
 have G:B.Fr a=none:=(R.wd.own a _ how).elim (fun z=>by cases z) fun z=>z
 have A:B.Fr p=none:=by
  cases z:B.Fr p with
  |none=>rfl|some u=>have:=(R.wd.fr p u z).1;rw[I]at this;cases this
 have Hp:((w.addF p o0 n f).mut a (.ins (cl ob.cls) dx (zde f (.ref p) fs))).H p=some o0:=by
  show upd (upd w.H p _) a _ p=_;rw[zai k.symm,zan]
 have q:((w.addF p o0 n f).mut a (.ins (cl ob.cls) dx (zde f (.ref p) fs))).ow p=some (.fld n f):=if_pos rfl
 have s:((w.addF p o0 n f).mut a (.ins (cl ob.cls) dx (zde f (.ref p) fs))).ow a=some (.obj n):=by
  show(if a=p then _ else w.ow a)=_;rw[if_neg k];exact how
 refine⟨⟨⟨fun b u h=>?_,fun b r h=>?_,by rw[yau];exact R.wd.len,fun m t h=>?_⟩,R.len,fun i o e h=>?_⟩,l⟩
 ·have:=kp b u (R.wd.fr b u h).1 fun z=>by
   rcases R.wd.own b _ z with y|y
   ·cases y
   ·rw[h]at y;cases y
  exact⟨this.1,this.2.trans (R.wd.fr b u h).2⟩
 ·have h':(if b=p then some (Root.fld n f)else w.ow b)=some r:=h;split at h'
  ·rename_i z;rw[z];exact .inr A
  ·exact R.wd.own b r h'
 ·rcases zgm h with⟨rfl,rfl⟩|⟨d,h⟩
  ·refine⟨a,J,s,dx,_,zan,?_⟩;refine zda.put (hF.keepF l fun b u g c E=>?_) (.inr (.inr ⟨rfl,d0,rfl,p,o0,rfl,q,Hp,ht.up l⟩));have:=kp b u c (by rw[E];exact fun z=>by cases z);exact⟨this.1,this.2.trans E⟩
  ·obtain⟨b,e,x⟩:=R.wd.obj m t h;exact⟨b,e,x.keep l fun b u c hm=>kp b u c fun z=>by rw[z]at hm;exact d hm.symm⟩
 ·obtain⟨v,F,x⟩:=R.slots i o e h
  exact⟨v,F,x.keep l fun b u c C=>by
   have:=kp b u c (by rw[C];exact fun z=>by cases z)
   exact⟨this.1,this.2.trans C⟩⟩
def Rel.seto(R:Rel cl B σ w ρ S)(hn:S[n]?=some ob)(J:w.mu[n]?=some a)(how:w.ow a=some (.obj n))(hH:w.H a=some (.ins (cl ob.cls) dx fs))(hF:zda cl w n fs ob.fs)
  (U:fs.lookup f=some (.ref c)) (I:w.ow c=some (.fld n f)) (ht:Top cl w o0 d0) (nd:zdQ ob=true):
  Rel cl B σ (w.mut c o0) ρ (S.set n (ob.put f true (.tup [d0])))/\Fut w (w.mut c o0):=by
 have l:=zdj (w:=w) (p:=c) (o:=o0) (by rw[I];exact yaE _)
 have kp:∀b o,w.H b=some o->w.ow b≠some (.fld n f)->(w.mut c o0).H b=some o/\(w.mut c o0).ow b=w.ow b:=fun b o j d=>⟨by
  show upd w.H c _ b=_
  rw[zai (fun z=>d (by rw[z];exact I))];exact j,rfl⟩
 have t:B.Fr c=none:=(R.wd.own c _ I).elim (fun z=>by cases z) fun z=>z
 refine⟨⟨⟨fun b o h=>?_,R.wd.own,by rw[yau];exact R.wd.len,fun r m h=>?_⟩,R.len,fun i o e h=>?_⟩,l⟩
 ·refine⟨?_,(R.wd.fr b o h).2⟩;show upd w.H c _ b=_;rw[zai (fun z=>by rw[z,t]at h;cases h)];exact(R.wd.fr b o h).1
 ·rcases zgm h with⟨rfl,rfl⟩|⟨d,h⟩
  ·refine⟨a,J,how,dx,fs,?_,?_⟩
   ·exact(kp a _ hH (by rw[how];exact fun z=>by cases z)).1
   ·refine zda.dic (a:=c) l (fun b o g s j k=>?_) (.inr (.inr ⟨rfl,d0,rfl,c,o0,rfl,I,zan,ht.up l⟩)) hF (yai nd) U
    ·exact⟨(kp b o j (by rw[k];exact fun z=>s (by cases z;rfl))).1,k⟩
  ·obtain⟨b,e,x⟩:=R.wd.obj r m h;exact⟨b,e,x.keep l fun b o j hm=>kp b o j fun z=>by rw[z]at hm;exact d hm.symm⟩
 ·obtain⟨q,u,x⟩:=R.slots i o e h;exact⟨q,u,x.keep l fun b o j k=>⟨(kp b o j (by rw[k];exact fun z=>by cases z)).1,k⟩⟩
end
noncomputable def zq1(cn f:Str)(d:D)(S:Sto):Option (Nat×Ob×D):=match d with
 |.ref n=>(match S[n]? with
  |some ob=>if ob.cls=cn then(match ob.fs.lookup f with|some (true,.tup [d])=>some (n,ob,d)|_=>none)else none
  |none=>none)
 |_=>none
section
variable{cl:Cf}{cn:Str}{X:Cx}{E:St->XK}{e:Expr}{fe:Fe}{f:Str}{pos:Pos}{B:Base}{σ:St}{w:Wd}{ρ:Env}{S:Sto}
def zuP(I:zhW cl cn f)(R:Rel cl B σ w ρ S)(J:Shd cl w v d)(hd:zq1 cn f d S=some (n,ob,d0)):
  ∃a dx fs c o,v=.ref a/\S[n]?=some ob/\w.mu[n]?=some a/\w.ow a=some (.obj n)/\w.H a=some (.ins (cl ob.cls) dx fs)/\zda cl w n fs ob.fs/\Cls cl.K (cl ob.cls)/\zdE cl.K (cl ob.cls) f/\fs.lookup f=some (.ref c)/\w.ow c=some (.fld n f)/\w.H c=some o/\Top cl w o d0:=by
 unfold zq1 at hd
 cases d with
 |ref j=>
  dsimp only at hd
  cases e:S[j]? with
  |none=>rw[e]at hd;cases hd|some i=>
   rw[e]at hd;dsimp only at hd;split at hd
   ·rename_i b;split at hd
    ·rename_i m k;cases hd;obtain⟨a,dx,fs,rfl,g,how,l,h⟩:=zgy R J e;obtain⟨v,lv,fr⟩:=h.look k
     rcases fr with⟨z,_⟩|⟨_,_,_,_,_,_,_,_,_,_,z⟩|⟨_,d1,z,c,o,rfl,c1,q,p⟩
     ·cases z
     ·cases z
     ·cases z;exact⟨a,dx,fs,c,o,rfl,e,g,how,l,h,b ▸ I.1,b ▸ I.2,lv,c1,q,p⟩
    ·cases hd
   ·cases hd
 |_=>cases hd
end
noncomputable abbrev Fq:=Env->Sto->Option D
noncomputable def tQ(cl:Cf)(g:Fq):TE:=fun σ H Q=>∃B w ρ S d,w.H=H/\Rel cl B σ w ρ S/\g ρ S=some d/\∀v,Shd cl w v d->Q v H
noncomputable def zjZ(i:Nat):Fq:=fun ρ _=>match ρ[i]? with|some (~~~d)=>some d|_=>none
def zps(cn f:Str)(g:Fq):Fq:=fun ρ S=>(g ρ S).bind fun d=>zhJ cn f d S
section
variable{X:Cx}{cl:Cf}{e o:Expr}{es:List Expr}{g:Fq}{gs:List Fq}{pos:Pos}{f cn:Str}
def zte(U:X.N[i]?=some x)(J:Vis X.env.scope x)(hd:(x==("__debug__":Str))=false)(I:(x==("__classdict__":Str))=false):PE X (.Name x pos) (tQ cl (zjZ i)):=by
 refine PE.imp (za0 U J hd I) ?_;rintro σ H Q ⟨B,w,ρ,S,d,rfl,R,a,q⟩;unfold zjZ at a;split at a
 ·rename_i d' hi;cases a;obtain⟨v,ev,b⟩:=R.slots i false _ hi;exact⟨v,ev,q v b⟩
 ·cases a
def ztf(I:zhW cl cn f)(kk:X.K=cl.K)(he:PE X e (tQ cl g))(J:attributeBase e f X.env (eval e X.env)=eval e X.env):PE X (.Attribute e f pos) (tQ cl (zps cn f g)):=by
 refine PE.imp (zeK he J) ?_;rintro σ H Q ⟨B,w,ρ,S,d,rfl,R,b,q⟩;unfold zps at b
 cases h1:g ρ S with
 |none=>rw[h1]at b;cases b|some d1=>
  rw[h1]at b;refine⟨B,w,ρ,S,d1,rfl,R,h1,fun v c=>?_⟩;obtain⟨a,C,dx,fs,y,rfl,l,k,j,i,h⟩:=zpZ I R c b;rw[kk];exact⟨a,C,dx,fs,y,rfl,l,k,j,i,q y h⟩
end
noncomputable def zow(cn f:Str)(ρ:Env)(S:Sto)(i:Nat):Option (Nat×Ob×D):=match ρ[i]? with|some (~~~d)=>zq1 cn f d S|_=>none
def zgF(cn f:Str)(i:Nat):Fs:=fun ρ S=>match ρ[i]? with
 |some (~~~.ref n)=>(match S[n]? with
   |some ob=>if decide (ob.cls=cn)&&decide (ob.fs.length<1000)then .nx ρ (S.set n (ob.put f true (.tup [.lst []])))else .bad
   |none=>.bad)
 |_=>.bad
def zhm(cn f:Str)(i:Nat)(g:Fq):Fs:=fun ρ S=>match zow cn f ρ S i,g ρ S with
 |some (n,ob,.lst l),some d=>if zbh l.length&&zdQ ob then .nx ρ (S.set n (ob.put f true (.tup [.lst (l++[d])])))else .bad
 |_,_=>.bad
def zk9(cn f:Str)(i:Nat):Fe:=fun ρ S=>match zow cn f ρ S i with
 |some (n,ob,.lst l)=>(match l[l.length-1]? with|some d=>if zdQ ob then .ok d (S.set n (ob.put f true (.tup [.lst l.dropLast])))else .bad|none=>.bad)
 |_=>.bad
def zgN(cn f:Str)(i:Nat):Fe:=fun ρ S=>match zow cn f ρ S i with
 |some (_,_,.lst l)=>.ok (.int l.length) S|_=>.bad
section
variable{X:Cx}{cl:Cf}{E:St->XK}{own:Bool}{e:Expr}{es:List Expr}{g:Fq}{gs:List Fq}{pos pos' apos ap cp p p2:Pos}{f cn:Str}{i:Nat}{x:Str}
def zji(I:zhW cl cn f)(R:Rel cl B σ w ρ S)(h:zow cn f ρ S i=some (n,ob,d0)):
  ∃a dx fs c o,σ[i]?=some (some (.ref a))/\S[n]?=some ob/\w.mu[n]?=some a/\w.ow a=some (.obj n)/\w.H a=some (.ins (cl ob.cls) dx fs)/\zda cl w n fs ob.fs/\Cls cl.K (cl ob.cls)/\zdE cl.K (cl ob.cls) f/\fs.lookup f=some (.ref c)/\w.ow c=some (.fld n f)/\w.H c=some o/\Top cl w o d0:=by
 unfold zow at h;split at h
 ·rename_i d hi;obtain⟨v,ev,b⟩:=R.slots i false _ hi;obtain⟨a,dx,fs,c,o,rfl,h1⟩:=zuP I R b h;exact⟨a,dx,fs,c,o,ev,h1⟩
 ·cases h
def zqo(hN:X.N[i]?=some x)(hv:Vis X.env.scope x)(hd:(x==("__debug__":Str))=false)(I:(x==("__classdict__":Str))=false)(U:Same' cl X)(J:zhW cl cn f)(hs:swapsWith (.List [] p) (some (.Attribute (.Name x p2) f apos)) pos.line X.env=pure false):PS X (.Assign [.Attribute (.Name x p2) f apos] (.List [] p) pos) (tS cl E own (zgF cn f i)):=by
 refine PS.imp (zmh (za0 hN hv hd I) (zpz zaQ) hs) ?_;rintro De σ H ⟨B,w,ρ,S,rfl,R,q⟩;refine⟨by decide,fun pd c=>?_⟩;unfold zgF at q;split at q
 ·rename_i n hi;obtain⟨v,ev,j⟩:=R.slots i false _ hi
  cases d:S[n]? with
  |none=>rw[d]at q;exact q.elim|some ob=>
   rw[d]at q;dsimp only at q;split at q
   ·rename_i b;rw[yab]at b;obtain⟨a,dx,fs,rfl,e,how,g,h⟩:=zgy R j d;rw[U.kk];refine⟨_,ev,a,_,dx,fs,rfl,?_,yai b.1 ▸ J.1,yai b.1 ▸ J.2,by rw[h.len];exact yai b.2,?_⟩
    ·rw[zai (zal g c)];exact g
    ·obtain⟨k,F3⟩:=R.newo (f:=f) d e how g h c (.lst .nil);exact q σ _ k F3
   ·exact q.elim
 ·exact q.elim
def zqq(hN:X.N[i]?=some x)(hv:Vis X.env.scope x)(hd:(x==("__debug__":Str))=false)(J:(x==("__classdict__":Str))=false)(U:Same' cl X)(hk:zhW cl cn f)(hb:attributeBase (.Name x p) f X.env (eval (.Name x p) X.env)=eval (.Name x p) X.env)(he:PE X e (tQ cl g))(ae:attributeBase (.Attribute (.Name x p) f apos) "append" X.env (eval (.Attribute (.Name x p) f apos) X.env)=eval (.Attribute (.Name x p) f apos) X.env)
  (ah:zcb e=true) (I:(ap.endLine==cp.line)=true):PS X (.Expr (.Call (.Attribute (.Attribute (.Name x p) f apos) "append" ap) [e] [] cp) pos) (tS cl E own (zhm cn f i g)):=by
 refine PS.imp (zcU (zkT (es:=[]) yaY ybs ybt zdR (zeK (za0 hN hv hd J) hb) (zam he zaQ (zbI ah)) (ae:=ae) (hfew:=znc (by simp[ah]) (by simp)) (aa:=I) (hs:=zbI ah) (aj:=rfl))) ?_;rintro De σ H ⟨B,w,ρ,S,rfl,R,q⟩;unfold zhm at q;split at q
 ·rename_i n ob l d r s;obtain⟨a,dx,fs,c,o,ev,u,h,how,k,y,c1,z,lv,m,j,t⟩:=zji hk R r;split at q
  ·rename_i b;rw[yab]at b
   cases t with
   |lst t=>
    rw[U.kk];refine⟨_,ev,a,_,dx,fs,_,rfl,k,c1,z,lv,.inl ⟨rfl,_,SqL.of j⟩,B,w,ρ,S,d,rfl,R,s,fun v h'=>?_⟩;refine⟨c,_,v,rfl,rfl,j,by rw[t.length];exact zfF b.1,?_⟩;obtain⟨A,F3⟩:=R.seto u h how k y lv m (.lst (t.append (.cons h' .nil))) b.2;exact q σ _ A F3
  ·exact q.elim
 ·exact q.elim
def zqA(hN:X.N[i]?=some x)(hv:Vis X.env.scope x)(hd:(x==("__debug__":Str))=false)(J:(x==("__classdict__":Str))=false)(U:Same' cl X)(hk:zhW cl cn f)(hb:attributeBase (.Name x p) f X.env (eval (.Name x p) X.env)=eval (.Name x p) X.env)(ae:attributeBase (.Attribute (.Name x p) f apos) "pop" X.env (eval (.Attribute (.Name x p) f apos) X.env)=eval (.Attribute (.Name x p) f apos) X.env)
  (I:(ap.endLine==cp.line)=true):PE X (.Call (.Attribute (.Attribute (.Name x p) f apos) "pop" ap) [] [] cp) (tE cl E (zk9 cn f i)):=by
 refine PE.imp (zmu yaY PySem.F.slot_list_pop PySem.F.type_list_pop zpG (zeK (za0 hN hv hd J) hb) (ae:=ae) (aa:=I)) ?_;rintro σ H Q ⟨B,w,ρ,S,rfl,R,q⟩;unfold zk9 at q
 cases h:zow cn f ρ S i with
 |none=>rw[h]at q;exact q.elim|some u=>
  obtain⟨n,ob,d0⟩:=u;rw[h]at q
  cases d0 with
  |lst l=>
   dsimp only at q;obtain⟨a,dx,fs,c,o,ev,z,g,how,r,A,c1,C,lv,y,m,t⟩:=zji hk R h
   cases e:l[l.length-1]? with
   |none=>rw[e]at q;exact q.elim|some d=>
    rw[e]at q;dsimp only at q
    cases b:zdQ ob with
    |false=>rw[b,if_neg (by decide)]at q;exact q.elim
    |true=>
     rw[b,if_pos rfl]at q
     cases t with
     | @lst xs _ t=>
      obtain⟨v,k,s⟩:=t.at e;rw[U.kk]
      have j:Shds cl w xs.dropLast l.dropLast:=by
       rw[ycV,ycV,t.length];exact t.take _
      refine⟨_,ev,a,_,dx,fs,_,rfl,r,c1,C,lv,.inl ⟨rfl,_,SqL.of m⟩,c,xs,v,rfl,rfl,m,by rw[t.length];exact k,?_⟩;obtain⟨D,F3⟩:=R.seto z g how r A lv y (.lst j) b;exact q v _ D F3 (s.up F3)
  |_=>exact q.elim
def zqC{U:Pos}{y:Str}(hN:X.N[i]?=some x)(hv:Vis X.env.scope x)(hd:(x==("__debug__":Str))=false)(I:(x==("__classdict__":Str))=false)(J:Same' cl X)(hk:zhW cl cn f)(hb:attributeBase (.Name x p) f X.env (eval (.Name x p) X.env)=eval (.Name x p) X.env)(hg:Gl X "len")(hm:X.mg "len"=none):
  PE X (.Call (.Name "len" U) [.Attribute (.Name x p) f apos] [] cp) (tE cl E (zgN cn f i)):=by
 refine PE.imp (zbA zcP hg hm PySem.boot_len (zam (zeK (za0 hN hv hd I) hb) zaQ)) ?_;rintro σ H Q ⟨B,w,ρ,S,rfl,R,q⟩;unfold zgN at q
 cases b:zow cn f ρ S i with
 |none=>rw[b]at q;exact q.elim|some u=>
  obtain⟨n,ob,d0⟩:=u;rw[b]at q
  cases d0 with
  |lst l=>
   dsimp only at q;obtain⟨a,dx,fs,c,o,ev,k,d,how,g,m,c1,h,lv,j,e,t⟩:=zji hk R b
   cases t with
   |lst t=>
    rw[J.kk];refine⟨_,ev,a,_,dx,fs,_,rfl,g,c1,h,lv,c,_,rfl,.inl (SqL.of e),?_⟩;rw[t.length];exact q _ w R (Fut.refl _) (.int _)
  |_=>exact q.elim
end
noncomputable def Base.hold(B:Base)(p:Addr)(o:HO):Base:=⟨fun a=>if a=p then some o else B.Fr a,fun a=>if a=p then some .far else B.fw a⟩
section
variable{cl:Cf}{B:Base}{σ:St}{w:Wd}{ρ:Env}{S:Sto}
theorem Rel.hold(R:Rel cl B σ w ρ S)(I:w.H p=none):Rel cl (B.hold p o) σ (w.addAs p o .far) ρ S:=by
 have d:=zcy (w:=w) (p:=p) (o:=o) (r:=.far) I
 have kp:∀a u,w.H a=some u->(w.addAs p o .far).H a=some u/\(w.addAs p o .far).ow a=w.ow a:=fun a u c=>by
  have n:a≠p:=zal c I;refine⟨?_,?_⟩
  ·show upd w.H p o a=_;rw[zai n];exact c
  ·show(if a=p then _ else if w.ow a=some Root.far then some Root.far else w.ow a)=_;rw[if_neg n];split
   ·rename_i e;exact e.symm
   ·rfl
 refine⟨⟨fun a u h=>?_,fun a r h=>?_,R.wd.len,fun n ob h=>?_⟩,R.len,fun j b e g=>?_⟩
 ·by_cases c:a=p
  ·subst c;have h':(if a=a then some o else B.Fr a)=some u:=h;rw[if_pos rfl]at h';cases h';exact⟨zan,by show(if a=a then some Root.far else _)=(if a=a then some Root.far else _);rw[if_pos rfl,if_pos rfl]⟩
  ·have h':(if a=p then some o else B.Fr a)=some u:=h;rw[if_neg c]at h';have:=kp a u (R.wd.fr a u h').1;refine⟨this.1,this.2.trans ?_⟩;show _=(if a=p then some Root.far else B.fw a);rw[if_neg c];exact(R.wd.fr a u h').2
 ·by_cases c:a=p
  ·have h':(if a=p then some Root.far else if w.ow a=some Root.far then some Root.far else w.ow a)=some r:=h;rw[if_pos c]at h';cases h';exact .inl rfl
  ·have h':(if a=p then some Root.far else if w.ow a=some Root.far then some Root.far else w.ow a)=some r:=h;rw[if_neg c]at h';split at h'
   ·cases h';exact .inl rfl
   ·rcases R.wd.own a r h' with z|z
    ·exact .inl z
    ·refine .inr ?_;show(if a=p then some o else B.Fr a)=none;rw[if_neg c];exact z
 ·obtain⟨a,e,x⟩:=R.wd.obj n ob h;exact⟨a,e,x.keep d fun b u i _=>kp b u i⟩
 ·obtain⟨v,k,x⟩:=R.slots j b e g;exact⟨v,k,x.keep d fun a u c f=>⟨(kp a u c).1,(kp a u c).2.trans f⟩⟩
def Rel.unhold(R:Rel cl (B.hold p o) σ w ρ S)(I:B.Fr p=none):Rel cl B σ w ρ S:=by
 refine⟨⟨fun a u h=>?_,fun a r h=>?_,R.wd.len,R.wd.obj⟩,R.len,R.slots⟩
 ·have c:a≠p:=fun z=>by rw[z,I]at h;cases h
  have h2:=R.wd.fr a u (show(if a=p then some o else B.Fr a)=some u by rw[if_neg c];exact h);exact⟨h2.1,h2.2.trans (show(if a=p then some Root.far else B.fw a)=_ from if_neg c)⟩
 ·rcases R.wd.own a r h with z|z
  ·exact .inl z
  ·have b:(if a=p then some o else B.Fr a)=none:=z;split at b
   ·cases b
   ·exact .inr b
end
noncomputable def Wd.claim(w:Wd)(p:Addr)(r:Root):Wd:=⟨w.H,fun a=>if a=p then some r else if w.ow a=some r then some .far else w.ow a,w.mu⟩
section
variable{cl:Cf}{B:Base}{σ:St}{w:Wd}{ρ:Env}{S:Sto}
def zgo(h:w.ow p≠none):Fut w (w.claim p r)where
 keep:=fun a u c b=>by
  have n:a≠p:=fun z=>h (by rw[<-z];exact b)
  refine⟨c,?_⟩;show(if a=p then some r else if w.ow a=some r then some Root.far else w.ow a)=none;rw[if_neg n,if_neg (by rw[b];exact fun z=>by cases z)];exact b
 mu:=fun _ _ h=>h
theorem Rel.claim(R:Rel cl (B.hold p o) σ w ρ S)(I:B.Fr p=none)(t:Top cl w o d):Rel cl B (σ.set i (some (.ref p))) (w.claim p (.slot i)) (ρ.set i (some (true,d))) S:=by
 have F:=R.wd.fr p o (show(if p=p then some o else B.Fr p)=some o from if_pos rfl);have c:w.ow p=some .far:=F.2.trans (show(if p=p then some Root.far else B.fw p)=_ from if_pos rfl);have C:=zgo (w:=w) (p:=p) (r:=.slot i) (by rw[c];exact yaE _)
 have kp:∀a u,w.H a=some u->w.ow a≠some .far->w.ow a≠some (.slot i)->(w.claim p (.slot i)).H a=some u/\(w.claim p (.slot i)).ow a=w.ow a:=fun a u A J s=>by
  have n:a≠p:=fun z=>J (by rw[z];exact c)
  refine⟨A,?_⟩;show(if a=p then _ else if w.ow a=some (Root.slot i)then some Root.far else w.ow a)=_;rw[if_neg n,if_neg s]
 refine⟨⟨fun a u h=>?_,fun a r h=>?_,R.wd.len,fun n ob h=>?_⟩,by rw[yau,yau];exact R.len,fun j b e l=>?_⟩
 ·have g:a≠p:=fun z=>by rw[z,I]at h;cases h
  have h2:=R.wd.fr a u (show(if a=p then some o else B.Fr a)=some u by rw[if_neg g];exact h);have L:w.ow a=B.fw a:=h2.2.trans (show(if a=p then some Root.far else B.fw a)=_ from if_neg g)
  have q:w.ow a≠some (.slot i):=fun z=>by
   rcases R.wd.own a _ z with y|y
   ·cases y
   ·have E:(if a=p then some o else B.Fr a)=none:=y;rw[if_neg g,h]at E;cases E
  refine⟨h2.1,?_⟩;show(if a=p then some (Root.slot i)else if w.ow a=some (Root.slot i)then some Root.far else w.ow a)=_;rw[if_neg g,if_neg q];exact L
 ·have h':(if a=p then some (Root.slot i)else if w.ow a=some (Root.slot i)then some Root.far else w.ow a)=some r:=h;split at h'
  ·rename_i e;rw[e];exact .inr I
  ·rename_i g;split at h'
   ·cases h';exact .inl rfl
   ·rcases R.wd.own a r h' with z|z
    ·exact .inl z
    ·have D:(if a=p then some o else B.Fr a)=none:=z;rw[if_neg g]at D;exact .inr D
 ·obtain⟨a,e,x⟩:=R.wd.obj n ob h;exact⟨a,e,x.keep C fun b u K G=>kp b u K (fun z=>by rwa[z]at G) (fun z=>by rwa[z]at G)⟩
 ·by_cases f:i=j
  ·subst f
   have k:i<ρ.length:=by
    have:=(yal.mp l).1;rwa[yau]at this
   rw[yam k]at l;cases l;exact⟨.ref p,by rw[yam (by rw[R.len];exact k)],p,o,rfl,if_pos rfl,F.1,t.up C⟩
  ·rw[yax f]at l ⊢;obtain⟨v,M,x⟩:=R.slots j b e l;refine⟨v,M,x.keep C fun a u A m=>?_⟩;have:=kp a u A (by rw[m];exact fun z=>by cases z) (by rw[m];exact fun z=>f (by cases z;rfl));exact⟨this.1,this.2.trans m⟩
end
noncomputable def tO(cl:Cf)(E:St->XK):Bool->Fe->TE|true,f=>tN cl E f|false,f=>tE cl E f
noncomputable def zr1(i j:Nat)(J:Bool)(f1:Fe)(I:Bool)(f2:Fe):Fs:=fun ρ S=>match f1 ρ S with
 |.ok d1 S1=>(match f2 ρ S1 with
  |.ok d2 S2=>.nx ((ρ.set i (some (J,d1))).set j (some (I,d2))) S2|.exc c S'=>.ex c ρ S'|.bad=>.bad)
 |.exc c S'=>.ex c ρ S'|.bad=>.bad
section
variable{X:Cx}{cl:Cf}{E:St->XK}{own:Bool}
def zou(q:tS cl E own (zr1 i j J f1 I f2) De σ H):zxq i j (ze8 (tO cl E J f1) (ze8 (tO cl E I f2) zll)) De σ H:=by
 obtain⟨B,w,ρ,S,rfl,R,q⟩:=q;unfold zr1 at q
 cases J with
 |false=>
  refine⟨B,w,ρ,S,rfl,R,?_⟩
  cases h1:f1 ρ S with
  |bad=>rwa[h1]at q|exc c S1=>rw[h1]at q;exact fun w' d e=>q σ w' d e|ok d1 S1=>
   rw[h1]at q;dsimp only at q;intro v g h F1 sh1
   cases I with
   |false=>
    refine⟨B,g,ρ,S1,rfl,h,?_⟩
    cases h2:f2 ρ S1 with
    |bad=>rwa[h2]at q|exc c S2=>rw[h2]at q;exact fun w' d e=>q σ w' d (F1.trans e)|ok d2 S2=>
     rw[h2]at q;intro v2 a R2 F2 sh2;exact⟨v,v2,rfl,q _ a ((R2.put (sh1.up F2)).put sh2) (F1.trans F2)⟩
   |true=>
    refine⟨B,g,ρ,S1,rfl,h,?_⟩
    cases h2:f2 ρ S1 with
    |bad=>rwa[h2]at q|exc c S2=>rw[h2]at q;exact fun w' d e=>q σ w' d (F1.trans e)|ok d2 S2=>
     rw[h2]at q;intro p2 l a R2 F2 hp2 m;exact⟨v,.ref p2,rfl,q _ (a.addAs p2 l (.slot j)) ((R2.put (sh1.up F2)).own hp2 m) (F1.trans (F2.trans (zcy hp2)))⟩
 |true=>
  refine⟨B,w,ρ,S,rfl,R,?_⟩
  cases h1:f1 ρ S with
  |bad=>rwa[h1]at q|exc c S1=>rw[h1]at q;exact fun w' d e=>q σ w' d e|ok d1 S1=>
   rw[h1]at q;dsimp only at q;intro p u g h F1 n t1;have s:=h.hold (o:=u) n;have fa:=zcy (w:=g) (p:=p) (o:=u) (r:=.far) n
   have k:B.Fr p=none:=by
    cases z:B.Fr p with
    |none=>rfl|some x=>have:=(h.wd.fr p x z).1;rw[n]at this;cases this
   cases I with
   |false=>
    refine⟨B.hold p u,g.addAs p u .far,ρ,S1,rfl,s,?_⟩
    cases h2:f2 ρ S1 with
    |bad=>rwa[h2]at q|exc c S2=>rw[h2]at q;exact fun w' d e=>q σ w' (d.unhold k) (F1.trans (fa.trans e))|ok d2 S2=>
     rw[h2]at q;intro v2 a R2 F2 sh2;have f:=R2.wd.fr p u (show(if p=p then some u else B.Fr p)=some u from if_pos rfl)
     have b:a.ow p≠none:=by rw[f.2,show(B.hold p u).fw p=some Root.far from if_pos rfl];exact yaE _
     have fc:=zgo (w:=a) (p:=p) (r:=.slot i) b;exact⟨.ref p,v2,rfl,q _ (a.claim p (.slot i)) ((R2.claim k (t1.up (fa.trans F2))).put (sh2.up fc)) (F1.trans (fa.trans (F2.trans fc)))⟩
   |true=>
    refine⟨B.hold p u,g.addAs p u .far,ρ,S1,rfl,s,?_⟩
    cases h2:f2 ρ S1 with
    |bad=>rwa[h2]at q|exc c S2=>rw[h2]at q;exact fun w' d e=>q σ w' (d.unhold k) (F1.trans (fa.trans e))|ok d2 S2=>
     rw[h2]at q;intro p2 l a R2 F2 hp2 m;have f:=R2.wd.fr p u (show(if p=p then some u else B.Fr p)=some u from if_pos rfl)
     have b:a.ow p≠none:=by rw[f.2,show(B.hold p u).fw p=some Root.far from if_pos rfl];exact yaE _
     have fc:=zgo (w:=a) (p:=p) (r:=.slot i) b;exact⟨.ref p,.ref p2,rfl,q _ ((a.claim p (.slot i)).addAs p2 l (.slot j)) ((R2.claim k (t1.up (fa.trans F2))).own (w:=a.claim p (.slot i)) hp2 (m.up fc)) (F1.trans (fa.trans (F2.trans (fc.trans (zcy (w:=a.claim p (.slot i)) hp2)))))⟩
end
noncomputable def zmL(ρ:Env)(i:Nat):Option (List D):=match ρ[i]? with|some (some (true,.lst l))=>some l|_=>none
def zoG{ρ:Env}{i:Nat}{l:List D}(h:zmL ρ i=some l):ρ[i]?=some (some (true,.lst l)):=by
 unfold zmL at h;split at h
 ·rename_i e;rw[e,Option.some.inj h]
 ·cases h
structure FnI where
 ar:Nat
 own:Bool
 run:List D->Sto->Out D
structure ObE where
 cur:Str
 fk:Str->Str->Bool
 df:Str->Bool
 mt:Str->Option (Str×FnI)
 mks:Str->Option (List D×FnI)
noncomputable def zt8(f:Str):Bool:=decide (f="before")||decide (f="after")
structure Genv where
 con:Str->Option D
 fn:Str->Option FnI
 blt:Str->Bool
 exc:Str->Bool
 und:Str->Str->Bool
 isx:Str->Str->Option Bool
 ob:ObE
 ds:Str->Bool
abbrev bmV:List Value:=[.type "ValueError",.type "Exception",.type "BaseException",.type "object"]
structure GOk(cl:Cf)(G:Genv)(P:Program)(wo:PySem.World)(K:PySem.W.Frag)(mg:Z6)(base:Heap)(k:Nat):Prop where
 con:∀x d,G.con x=some d->∃v u,mg x=some u/\zbu v u/\∀w,Shd cl w v d
 fn:∀x fi,G.fn x=some fi->∃f fd ps,mg x=some (.ref f)/\PySem.W.keepIn K (.ref f)=true/\zbz K fd ps []/\FnOk P wo K mg base (CXE P wo) k f fd ps (zgA cl fi.ar fi.own fi.run)
 blt:∀x,G.blt x=true->mg x=none
 exc:∀c,G.exc c=true->mg c=some (.ref (cl c))/\PySem.W.excIn K (cl c) bmV "ValueError.__new__"=true
 und:∀c C,G.und c C=true->L2.zpd K (cl c) (cl C)
 isx:∀c C b,G.isx c C=some b->PySem.W.ExcCls K (cl c)/\PySem.W.kitOne K (.ref (cl c)) (zuE cl C)=some b
 fk:∀c f,G.ob.fk c f=true->zhW cl c f
 mt:∀m c fi,G.ob.mt m=some (c,fi)->∃f fd ps,Cls K (cl c)/\Meth K (cl c) m f/\zbz K fd ps []/\FnOk P wo K mg base (CXE P wo) k f fd ps (zgA cl fi.ar fi.own fi.run)
 mks:∀c dds fi,G.ob.mks c=some (dds,fi)->∃f fd ps dvs ds k',k'+1<=k/\mg c=some (.ref (cl c))/\Mk K (cl c) f/\zbz K fd ps []/\zbz K fd ps ds/\Vals dvs ds/\(∀w,Shds cl w dvs dds)/\FnOk P wo K mg base (CXE P wo) k' f fd ps (zgA cl fi.ar false fi.run)
noncomputable abbrev Names:=List (Str×NameKind)
structure Gx(cl:Cf)(G:Genv)(k:Nat)(X:Cx)(nm:Names)(N:List Str)(E:St->XK):Prop where
 gok:GOk cl G X.prog X.w X.K X.mg X.base k
 room:Room k X.A
 calm:X.calm=true
 pass:zdy (CXE X.prog X.w) X E
 eN:X.N=N
 kk:X.K=cl.K
 pp:X.prog=cl.P
 ww:X.w=cl.wo
 nd:N.Nodup
 vis:∀x kd,nm.lookup x=some kd->∃kd',X.env.scope.names.lookup x=some kd'/\(kd'=kd\/(kd=.free/\kd'=.cell))
 fnx:∀x,nm.lookup x=some .local->X.env.scope.names.lookup x=some .local
 fnc:∀x,nm.lookup x=some .cell->X.fn x=true
noncomputable def idx:List Str->Str->Option Nat
 |[],_=>none|y::l,x=>if y=x then some 0 else(idx l x).map (·+1)
theorem zgl:∀{N:List Str}{x:Str}{i:Nat},idx N x=some i->N[i]?=some x
 |y::l,x,i,h=>by
  unfold idx at h;split at h
  ·rename_i e;cases h;rw[e];rfl
  ·cases a:idx l x with
   |none=>rw[a]at h;cases h|some j=>rw[a]at h;cases h;simpa using zgl a
noncomputable def zg0(x:Str):Bool:=!(x==("__debug__":Str))&&!(x==("__classdict__":Str))&&!decide (x="__name__")
def zeO(h:zg0 x=true):(x==("__debug__":Str))=false/\(x==("__classdict__":Str))=false/\x ≠ "__name__":=by
 unfold zg0 at h;simp only[yab,yaV,yb1]at h;exact⟨h.1.1,h.1.2,h.2⟩
noncomputable def zwd:Option NameKind->Bool|some .local=>true|some .cell=>true|some .free=>true|_=>false
def zjN(nm:Names)(N:List Str)(x:Str):Option Nat:=if zwd (nm.lookup x)&&zg0 x then idx N x else none
noncomputable def zbb(nm:Names)(x:Str):Bool:=decide (nm.lookup x=some .globalImplicit)&&zg0 x
section
variable{cl:Cf}{G:Genv}{k:Nat}{X:Cx}{nm:Names}{N:List Str}{E:St->XK}
def Gx.slot(g:Gx cl G k X nm N E)(h:zjN nm N x=some i):X.N[i]?=some x/\Vis X.env.scope x/\(x==("__debug__":Str))=false/\(x==("__classdict__":Str))=false:=by
 unfold zjN at h;split at h
 ·rename_i a;rw[yab]at a;obtain⟨h1,h2,_⟩:=zeO a.2;refine⟨by rw[g.eN];exact zgl h,?_,h1,h2⟩
  cases c:nm.lookup x with
  |none=>rw[c]at a;exact absurd a.1 (by decide)
  |some d=>
   obtain⟨b,e,z⟩:=g.vis x d c;rw[c]at a;unfold Vis;rw[e]
   rcases z with rfl|⟨_,rfl⟩
   ·cases b<;>first|exact .inl rfl|exact .inr (.inl rfl)|exact .inr (.inr rfl)|exact absurd a.1 (by decide)
   ·exact .inr (.inl rfl)
 ·cases h
def Gx.glob(g:Gx cl G k X nm N E)(h:zbb nm x=true):Gl X x/\(x==("__debug__":Str))=false/\x ≠ "__name__":=by
 unfold zbb at h;rw[yab]at h;obtain⟨h1,_,b⟩:=zeO h.2;obtain⟨a,e,z⟩:=g.vis x _ (yai h.1)
 rcases z with rfl|⟨z,_⟩
 ·exact⟨e,h1,b⟩
 ·cases z
end
noncomputable def okE:Expr->Bool|.Starred _ _=>false|.Set _ _ _=>false|_=>true
def zas(h:okE e=true):zcb e=true:=by cases e<;>first|rfl|cases h
def zf9(h:okE e=true):behindInMarks op e=false:=by cases e<;>first|rfl|cases h
def zhz(h:okE e=true)(v:Value):foldedSetIterable e env v=pure v:=by cases e<;>first|rfl|cases h
noncomputable def zcH:Expr->Bool|.IfExp _ _ _ _=>false|_=>true
def ltD:=zr9 fun i j=>decide (i<j)
def leD:=zr9 fun i j=>decide (i<=j)
def gtD:=zr9 fun i j=>decide (j<i)
def geD:=zr9 fun i j=>decide (j<=i)
section
variable{cl:Cf}{G:Genv}{k:Nat}{X:Cx}{nm:Names}{N:List Str}{E:St->XK}
theorem Gx.units(g:Gx cl G k X nm N E):X.A.units+64<cLine:=g.room.units
def Gx.un(g:Gx cl G k X nm N E){n:Nat}(h:n<=64):X.A.units+n<cLine:=ycC (Nat.add_le_add_left h _) g.units
def Gx.same(g:Gx cl G k X nm N E):Same' cl X:=⟨g.kk,g.pp,g.ww⟩
def zAe(I:args.all zcb=true)(J:args.length<30):methodCallForm (args.length+0) (backTo pos (starEach args env)) (backToKw pos (keywordEach [] env))=true:=by
 have h:=zca (pos:=pos) (env:=env) I;unfold methodCallForm
 have h1:(backTo pos (starEach args env)).all (!·.1)=true:=by
  rw[List.all_eq_not_any_not];simpa using h
 rw[h1];show(true&&true&&decide (args.length+0+0<30))=true;rw[yaB (by omega)];rfl
def zmI(J:attributeBase o m env (eval o env)=eval o env)(hf:methodCallForm (args.length+0) (backTo pos (starEach args env)) (backToKw pos (keywordEach [] env))=true)(I:(ap.endLine==pos.line)=true):
  eval (.Call (.Attribute o m ap) args [] pos) env=(do
   let ov ← eval o env
   standAt ap.atName
   let (f,first) ← holding [ov] (getMethod ov m (do return (← importBound o env).getD true))
   callWith pos f first (backTo pos (starEach args env)) (backToKw pos (keywordEach [] env))):=by
 show(do
  let ov ← attributeBase o m env (eval o env)
  standAt ap.atName
  methodCall o m ap pos env ov (args.length+0) (backTo pos (starEach args env)) (backToKw pos (keywordEach [] env)))=_
 rw[J]
 have e:∀ov,methodCall o m ap pos env ov (args.length+0) (backTo pos (starEach args env)) (backToKw pos (keywordEach [] env))=(do
   let (f,first) ← holding [ov] (getMethod ov m (do return (← importBound o env).getD true))
   callWith pos f first (backTo pos (starEach args env)) (backToKw pos (keywordEach [] env))):=fun ov=>by
  unfold methodCall calleeOf methodCallPos;rw[hf,I];rfl
 simp only[e]
end
theorem zfl:bootBuiltins "tuple"=some (.type "tuple"):=by decide +kernel
theorem zns:bootBuiltins "list"=some (.type "list"):=by decide +kernel
theorem zo8:bootBuiltins "int"=some (.type "int"):=by decide +kernel
theorem znt:bootBuiltins "bool"=some (.type "bool"):=by decide +kernel
theorem zo7:bootBuiltins "str"=some (.type "str"):=by decide +kernel
noncomputable def gd{α:Type}:(b:Bool)->(b=true->Option α)->Option α|true,k=>k rfl|false,_=>none
structure Dn(G:Genv)(nm:Names)(N:List Str)(e:Expr)where
 o:Bool
 f:Fe
 q:okE e=true
 ok:∀{cl k X E},Gx cl G k X nm N E->(o=true->PE X e (tN cl E f))/\PE X e (tE cl E f)/\(zcH e=true->PT X e (tTr cl E f))
noncomputable abbrev Rec(G:Genv):=∀nm N e,Option (Dn G nm N e)
structure Do(G:Genv)(nm:Names)(N:List Str)(e:Expr)where
 f:Fe
 q:okE e=true
 ok:∀{cl k X E},Gx cl G k X nm N E->PE X e (tH cl E f)
structure DL(G:Genv)(nm:Names)(N:List Str)(es:List Expr)where
 fs:List Fe
 q:es.all zcb=true
 l:fs.length=es.length
 ok:∀{cl k X E},Gx cl G k X nm N E->PA X es (tAs cl E fs)
structure DH(G:Genv)(nm:Names)(N:List Str)(es:List Expr)where
 fs:List Fe
 q:es.all zcb=true
 ok:∀{cl k X E},Gx cl G k X nm N E->PA X es (tHs cl E fs)
structure Sl(G:Genv)(nm:Names)(N:List Str)(x:Str)where
 i:Nat
 ok:∀{cl k X E},Gx cl G k X nm N E->X.N[i]?=some x/\Vis X.env.scope x/\(x==("__debug__":Str))=false/\(x==("__classdict__":Str))=false
section
variable{G:Genv}(rc:Rec G){nm:Names}{N:List Str}{e:Expr}
noncomputable def zkD(f:Fe)(q:okE e=true)(I:∀env whole,isTrue e env whole=(do let v ← whole;standAt e.pos;holding [v] (truthy v)))(p:∀{cl k X E},Gx cl G k X nm N E->PE X e (tE cl E f)):Option (Dn G nm N e):=some ⟨false,f,q,fun g=>⟨nofun,p g,fun _=>zjL (p g) (I _)⟩⟩
noncomputable def zvX(f:Fe)(q:okE e=true)(I:∀env whole,isTrue e env whole=(do let v ← whole;standAt e.pos;holding [v] (truthy v)))(p:∀{cl k X E},Gx cl G k X nm N E->PE X e (tN cl E f)):Option (Dn G nm N e):=some ⟨true,f,q,fun g=>⟨fun _=>p g,zfS (p g),fun _=>zjL (zfS (p g)) (I _)⟩⟩
def slO(G:Genv)(nm:Names)(N:List Str)(x:Str):Option (Sl G nm N x):=match h:zjN nm N x with|some i=>some ⟨i,fun g=>g.slot h⟩|none=>none
structure FA(G:Genv)(nm:Names)(N:List Str)(e:Expr)where
 i:Nat
 f:Str
 ok:∀{cl k X E},Gx cl G k X nm N E->∃x p ap,e=.Attribute (.Name x p) f ap/\X.N[i]?=some x/\Vis X.env.scope x/\(x==("__debug__":Str))=false/\(x==("__classdict__":Str))=false/\zhW cl G.ob.cur f
structure Dq(G:Genv)(nm:Names)(N:List Str)(e:Expr)where
 q:Fq
 pl:zcb e=true
 ok:∀{cl k X E},Gx cl G k X nm N E->PE X e (tQ cl q)
def faG(G:Genv)(nm:Names)(N:List Str):∀e,Option (FA G nm N e)
 |.Attribute (.Name x p) f ap=>gd (G.ob.fk G.ob.cur f) fun hf=>(slO G nm N x).map fun s=>⟨s.i,f,fun g=>⟨x,p,ap,rfl,(s.ok g).1,(s.ok g).2.1,(s.ok g).2.2.1,(s.ok g).2.2.2,g.gok.fk _ _ hf⟩⟩|_=>none
noncomputable def quG(G:Genv)(nm:Names)(N:List Str):∀e,Option (Dq G nm N e)
 |.Attribute (.Name x p) f ap=>gd (G.ob.fk G.ob.cur f&&!zt8 f) fun hf=>(slO G nm N x).map fun s=>⟨zps G.ob.cur f (zjZ s.i),rfl,fun g=>by
  rw[yab]at hf;obtain⟨s1,s2,b,a⟩:=s.ok g
  exact ztf (g.gok.fk _ _ hf.1) g.kk (zte s1 s2 b a) rfl⟩
 |_=>none
noncomputable def hld(a:Dn G nm N e):Do G nm N e:=⟨a.f,a.q,fun g=>zqE (a.ok g).2.1⟩
def Sl.v{x:Str}{p:Pos}(s:Sl G nm N x){cl k X E}(g:Gx cl G k X nm N E):PE X (.Name x p) (tE cl E (zaa s.i))/\PE X (.Name x p) (tH cl E (zag s.i)):=by
 obtain⟨s1,s2,b,a⟩:=s.ok g;exact⟨zsW s1 s2 b a,zs4 s1 s2 b a⟩
def opE(nm:Names)(N:List Str):∀e,Option (Do G nm N e)
 |.Name x p=>(match slO G nm N x with|some s=>some ⟨zag s.i,rfl,fun g=>(s.v g).2⟩|none=>(rc nm N (.Name x p)).map hld)
 |e=>(rc nm N e).map hld
def shL(nm:Names)(N:List Str):∀es,Option (DL G nm N es)
 |[]=>some ⟨[],rfl,rfl,fun _=>zid⟩|e::es=>(rc nm N e).bind fun a=>(shL nm N es).map fun b=>⟨a.f::b.fs,by rw[ybq,zas a.q,b.q];rfl,by rw[yar,yar,b.l],fun g=>zfa (a.ok g).2.1 (b.ok g) (zbI (zas a.q))⟩
def opL(nm:Names)(N:List Str):∀es,Option (DH G nm N es)
 |[]=>some ⟨[],rfl,fun _=>zsT⟩|e::es=>(opE rc nm N e).bind fun a=>(opL nm N es).map fun b=>⟨a.f::b.fs,by rw[ybq,zas a.q,b.q];rfl,fun g=>zqv (a.ok g) (b.ok g) (zbI (zas a.q))⟩
def zAh:∀op,Option {I // ∀{cl X},OpD X cl (binaryOp op) I}
 |.Add=>some ⟨zbG,ztX⟩|.Sub=>some ⟨zlm,ztR⟩|.Mult=>some ⟨zff,ztT⟩|.Mod=>some ⟨zkc,ztU⟩|.FloorDiv=>some ⟨zpU,ztW⟩|_=>none
noncomputable def zmX:Expr->Bool|.Constant .none _ _=>true|_=>false
def zww(b:Expr):∀op,Option {I // ∀{cl G k X nm N E},Gx cl G k X nm N E->OpD X cl (compareOp op) I}
 |.Eq=>some ⟨eqD,fun g=>zvW g.kk g.units⟩|.NotEq=>some ⟨neD,fun g=>zvV g.kk g.units⟩|.Lt=>some ⟨ltD,fun _=>zhA zvR⟩|.LtE=>some ⟨leD,fun _=>zhA zvS⟩|.Gt=>some ⟨gtD,fun _=>zhA zvT⟩|.GtE=>some ⟨geD,fun _=>zhA zvU⟩
 |.NotIn=>some ⟨zoC,fun g=>ztS g.kk g.units⟩|.Is=>gd (zmX b) fun _=>some ⟨zki,fun _=>ztV⟩|.IsNot=>gd (zmX b) fun _=>some ⟨zkW,fun _=>zre⟩|_=>none
structure DB(G:Genv)(nm:Names)(N:List Str)(op:BoolOp)(es:List Expr)where
 f:Fe
 ok:∀{cl k X E p},Gx cl G k X nm N E->PE X (.BoolOp op es p) (tE cl E f)/\PW X (.BoolOp op es p) (tTr cl E f)
noncomputable def boE:BoolOp->Fe->Fe->Fe|.And=>zgB|.Or=>eOr
noncomputable def zuM(nm:Names)(N:List Str)(op:BoolOp):∀es,Option (DB G nm N op es)
 |[]=>none|[a]=>gd (zcH a) fun ht=>(rc nm N a).map fun fa=>⟨fa.f,fun g=>⟨zty (fa.ok g).2.1,by
   cases op with
   |And=>exact zqN ((fa.ok g).2.2 ht)|Or=>exact ztg ((fa.ok g).2.2 ht)⟩⟩
 |a::b::r=>gd (zcH a) fun ht=>(rc nm N a).bind fun fa=>(zuM nm N op (b::r)).map fun fb=>⟨boE op fa.f fb.f,fun g=>by
   have h1:=fa.ok g;have h2:=fun p=>fb.ok (p:=p) g
   cases op with
   |And=>exact⟨zs6 h1.2.1 (h2 _).1,zsw (h1.2.2 ht) (h2 _).2⟩|Or=>exact⟨zvE h1.2.1 (h2 _).1,zvy (h1.2.2 ht) (h2 _).2⟩⟩
noncomputable def zwv(nm:Names)(N:List Str)(a:Expr)(p:Pos):∀ops bs,Option (Dn G nm N (.Compare a ops bs p))
 |[op],[b]=>(zww b op).bind fun e=>(opE rc nm N a).bind fun fa=>(opE rc nm N b).map fun fb=>⟨false,zaf e.1 fa.f fb.f,rfl,fun g=>⟨nofun,zs3 (e.2 g) (fa.ok g) (fb.ok g) (zf9 fb.q),fun _=>zsC (e.2 g) (fa.ok g) (fb.ok g) (zf9 fb.q)⟩⟩|[op,h],[b,c]=>(zww b op).bind fun e=>(zww c h).bind fun d=>(opE rc nm N a).bind fun fa=>(opE rc nm N b).bind fun fb=>(opE rc nm N c).map fun fc=>⟨false,zc9 e.1 d.1 fa.f fb.f fc.f,rfl,fun g=>
   have hm:lastMarks [op,h] [b,c]=false:=zf9 fc.q
   ⟨nofun,znZ (e.2 g) (d.2 g) (fa.ok g) (fb.ok g) (fc.ok g) hm,fun _=>znN (e.2 g) (d.2 g) (fa.ok g) (fb.ok g) (fc.ok g) hm⟩⟩
 |_,_=>none
noncomputable def zzw(nm:Names)(N:List Str)(a:Expr)(p:Pos):∀ops bs,Option (Dn G nm N (.Compare a ops bs p))
 |[.NotIn],[.Attribute (.Name x px) f _]=>gd (G.ob.df f&&G.ob.fk G.ob.cur f) fun b=>(rc nm N a).bind fun fa=>(rc nm N (.Name x px)).map fun fo=>⟨false,zpS G.ob.cur f fa.f fo.f,rfl,fun g=>by
   rw[yab]at b
   exact⟨nofun,zsZ (g.un (by decide)) g.same (g.gok.fk _ _ b.2) (fa.ok g).2.1 (fo.ok g).2.1 rfl rfl,fun _=>zsB (g.un (by decide)) g.same (g.gok.fk _ _ b.2) (fa.ok g).2.1 (fo.ok g).2.1 rfl rfl⟩⟩
 |[.NotIn],[.Name x _]=>gd (G.ds x) fun _=>(slO G nm N x).bind fun s=>(rc nm N a).map fun fa=>⟨false,ziL s.i fa.f,rfl,fun g=>by
   obtain⟨s1,s2,d,c⟩:=s.ok g
   exact⟨nofun,zqB (g.un (by decide)) g.same s1 s2 d c (fa.ok g).2.1,fun _=>zqi (g.un (by decide)) g.same s1 s2 d c (fa.ok g).2.1⟩⟩
 |_,_=>none
structure BI(x:Str)where
 g:List D->Option D
 nw:Bool
 ok:∀{cl G k X nm N E},Gx cl G k X nm N E->∃v,bootBuiltins x=some v/\((∃id,v=.builtin id)\/∃T,v=.type T)/\(if nw then zrZ X cl v g else zlk X cl v g)
def zuO(x:Str):Option (BI x):=
 if h:x="len"then some ⟨zeg,false,fun g=>⟨_,h ▸ PySem.boot_len,.inl ⟨_,rfl⟩,zuG g.kk⟩⟩
 else if h:x="all"then some ⟨zsa,false,fun g=>⟨_,h ▸ boot_all,.inl ⟨_,rfl⟩,zuH g.calm⟩⟩
 else if h:x="tuple"then some ⟨zbH,false,fun g=>⟨_,h ▸ zfl,.inr ⟨_,rfl⟩,zo4⟩⟩
 else if h:x="sum"then some ⟨zsx,false,fun g=>⟨_,h ▸ PyProof.Rows.boot_sum,.inl ⟨_,rfl⟩,zuF g.calm⟩⟩
 else if h:x="list"then some ⟨zmO,true,fun g=>⟨_,h ▸ zns,.inr ⟨_,rfl⟩,zrO⟩⟩
 else none
structure TI(x:Str)where
 T:String
 ok:bootBuiltins x=some (.type T)
noncomputable def zy4(x:Str):Option (TI x):=if h:x="int"then some ⟨"int",h ▸ zo8⟩else if h:x="bool"then some ⟨"bool",h ▸ znt⟩else if h:x="tuple"then some ⟨"tuple",h ▸ zfl⟩else if h:x="str"then some ⟨"str",h ▸ zo7⟩else none
theorem zuN{cl k X E}(bi:BI x)(g:Gx cl G k X nm N E)(I:zbb nm x=true)(J:G.blt x=true)(a:DH G nm N (e::es)):
  (bi.nw=true->PE X (.Call (.Name x p) (e::es) [] pos) (tN cl E (zax bi.g a.fs)))/\PE X (.Call (.Name x p) (e::es) [] pos) (tE cl E (zax bi.g a.fs)):=by
 obtain⟨g1,g2,g3⟩:=g.glob I;have m:=g.gok.blt x J;have d:=a.q;rw[ybq,yab]at d;have st:=zbI (es:=es) (env:=X.env) d.1;have pl:=zca (pos:=pos) (env:=X.env) d.2;obtain⟨v,c,h,b⟩:=bi.ok g
 cases f:bi.nw with
 |false=>
  rw[f]at b;have b:zlk X cl v bi.g:=b;refine⟨nofun,?_⟩
  rcases h with⟨id,rfl⟩|⟨T,rfl⟩
  ·exact PE.imp (zbA b g1 m c (a.ok g) g3 g2 st pl) fun _ _ _ q=>zss (fun _ _ _ z=>z) q
  ·exact PE.imp (zeL b g1 m c (a.ok g) g3 g2 st pl) fun _ _ _ q=>zss (fun _ _ _ z=>z) q
 |true=>
  rw[f]at b;have b:zrZ X cl v bi.g:=b
  have n:PE X (.Call (.Name x p) (e::es) [] pos) (tN cl E (zax bi.g a.fs)):=by
   rcases h with⟨id,rfl⟩|⟨T,rfl⟩
   ·exact PE.imp (zbA b g1 m c (a.ok g) g3 g2 st pl) fun _ _ _ q=>zsr (fun _ _ _ z=>z) q
   ·exact PE.imp (zeL b g1 m c (a.ok g) g3 g2 st pl) fun _ _ _ q=>zsr (fun _ _ _ z=>z) q
  exact⟨fun _=>n,zfS n⟩
def zAd{cl k X E}(g:Gx cl G k X nm N E)(U:zbb nm x=true)(I:G.fn x=some fi)(a:DL G nm N args)(J:args.length=fi.ar):
  (fi.own=true->PE X (.Call (.Name x p) args [] pos) (tN cl E (eFn fi.run a.fs)))/\PE X (.Call (.Name x p) args [] pos) (tE cl E (eFn fi.run a.fs)):=by
 obtain⟨g1,g2,g3⟩:=g.glob U;obtain⟨fa,fd,ps,f,d,c,b⟩:=g.gok.fn x fi I;have hlen:a.fs.length=fi.ar:=a.l.trans J
 have main:PE X (.Call (.Name x p) args [] pos) (zgQ (zgA cl fi.ar fi.own fi.run) [] E (tAs cl E a.fs)):=by
  cases args with
  |nil=>
   refine PE.imp (zmt b g.room g1 f d c .nil g.pass g2) ?_;have:a.fs=[]:=ya4 a.l;rw[this];rintro σ H Q ⟨B,w,ρ,S,rfl,R,q⟩;exact q [] w R (Fut.refl _) .nil
  |cons e es=>
   have a2:=a.q;rw[ybq,yab]at a2;exact zj4 b g.room g1 f d c .nil g.pass (a.ok g) g2 (zbI a2.1) (zca a2.2)
 cases h:fi.own with
 |false=>
  rw[h]at main;exact⟨nofun,PE.imp main fun _ _ _ q=>zuL q hlen⟩
 |true=>
  rw[h]at main;have n:PE X (.Call (.Name x p) args [] pos) (tN cl E (eFn fi.run a.fs)):=PE.imp main fun _ _ _ q=>zuK q hlen
  exact⟨fun _=>n,zfS n⟩
noncomputable def ziS(o:Bool)(f:Fe)(h:∀{cl k X E},Gx cl G k X nm N E->(o=true->PE X (.Call (.Name x p) args [] pos) (tN cl E f))/\PE X (.Call (.Name x p) args [] pos) (tE cl E f)):Option (Dn G nm N (.Call (.Name x p) args [] pos)):=some ⟨o,f,rfl,fun g=>⟨(h g).1,(h g).2,fun _=>zjL (h g).2 fun _=>rfl⟩⟩
def zwy(nm:Names)(N:List Str)(x:Str)(p pos:Pos)(args:List Expr):Option (Dn G nm N (.Call (.Name x p) args [] pos)):=gd (zbb nm x) fun b=>match hf:G.fn x with
 |some fi=>gd (decide (args.length=fi.ar)) fun c=>(shL rc nm N args).bind fun a=>ziS fi.own (eFn fi.run a.fs) fun g=>zAd g b hf a (yai c)|none=>gd (G.blt x) fun d=>match args with
  |[]=>none|e::es=>(zuO x).bind fun bi=>(opL rc nm N (e::es)).bind fun a=>ziS bi.nw (zax bi.g a.fs) fun g=>zuN bi g b d a
noncomputable def zz5(nm:Names)(N:List Str)(x:Str)(p pos:Pos):∀args,Option (Dn G nm N (.Call (.Name x p) args [] pos))
 |[a,.Name t _]=>gd (decide (x="isinstance")&&(zbb nm x&&G.blt x&&zbb nm t&&G.blt t)) fun b=>(zy4 t).bind fun T=>(opE rc nm N a).bind fun fa=>ziS false (eUn (zgj T.T) fa.f) fun g=>⟨nofun,by
  simp only[yab]at b;obtain⟨d,⟨⟨h1,h2⟩,e⟩,h4⟩:=b;obtain rfl:=yai d;obtain⟨t1,c,t3⟩:=g.glob e
  exact zqD (g.glob h1).1 (g.gok.blt _ h2) t1 (g.gok.blt _ h4) T.ok t3 c (zas fa.q) (fa.ok g)⟩
 |_=>none
noncomputable def zwx(G:Genv)(t:Str):Bool:=if t="ValueError"then G.blt t else G.exc t
def zz3(nm:Names)(N:List Str)(x:Str)(p pos:Pos):∀args,Option (Dn G nm N (.Call (.Name x p) args [] pos))
 |[a,.Name t _]=>gd (decide (x="isinstance")&&(zbb nm x&&G.blt x&&zbb nm t&&zwx G t)) fun e=>(opE rc nm N a).bind fun fa=>ziS false (eUn (zr5 G.isx t) fa.f) fun {cl _ _ _} g=>⟨nofun,by
  simp only[yab]at e;obtain⟨j,⟨⟨h1,h2⟩,k⟩,h4⟩:=e;obtain rfl:=yai j;obtain⟨t1,i,t3⟩:=g.glob k
  by_cases h:t="ValueError"
  ·subst h
   have d:G.blt "ValueError"=true:=by simpa[zwx]using h4
   exact zpr (vC:=.ty "ValueError") (g.glob h1).1 (g.gok.blt _ h2) (zdP t1 (g.gok.blt _ d) zlh rfl t3 i) (fun u r=>by rw[show u=Value.type "ValueError"from r];rfl) (fun c b e=>g.gok.isx c _ b e) (zas fa.q) (fa.ok g)
  ·have d:G.exc t=true:=by simpa[zwx,h]using h4
   exact zpr (vC:=.ref (cl t)) (g.glob h1).1 (g.gok.blt _ h2) (zms t1 (g.gok.exc t d).1 rfl i) (fun u r=>by rw[show u=Value.ref (cl t)from r];unfold zuE;rw[if_neg h]) (fun c b e=>g.gok.isx c _ b e) (zas fa.q) (fa.ok g)⟩
 |_=>none
def lrG(nm:Names)(N:List Str)(x:Str)(p pos:Pos):∀args,Option (Dn G nm N (.Call (.Name x p) args [] pos))
 |[.Call (.Name y _) [a] [] _]=>gd (decide (x="list")&&decide (y="range")&&(zbb nm x&&G.blt x&&zbb nm y&&G.blt y)) fun c=>(rc nm N a).bind fun fa=>ziS true (eUn lrD fa.f) fun g=>by
  simp only[yab]at c;obtain⟨⟨b,l⟩,⟨⟨h1,h2⟩,k⟩,h4⟩:=c;obtain rfl:=yai b;obtain rfl:=yai l;exact⟨fun _=>zs1 g.calm (g.glob h1).1 (g.gok.blt _ h2) (g.glob k).1 (g.gok.blt _ h4) (fa.ok g).2.1 (zbI (zas fa.q)),zfS (zs1 g.calm (g.glob h1).1 (g.gok.blt _ h2) (g.glob k).1 (g.gok.blt _ h4) (fa.ok g).2.1 (zbI (zas fa.q)))⟩
 |[.Name y _]=>gd (decide (x="sorted")&&(zbb nm x&&G.blt x&&G.ds y)) fun c=>(slO G nm N y).bind fun s=>ziS true (zk8 s.i) fun g=>by
  simp only[yab]at c;obtain⟨b,⟨h1,h2⟩,_⟩:=c;obtain rfl:=yai b;obtain⟨s1,s2,h,d⟩:=s.ok g;exact⟨fun _=>zlT g.calm g.same (g.glob h1).1 (g.gok.blt _ h2) s1 s2 h d,zfS (zlT g.calm g.same (g.glob h1).1 (g.gok.blt _ h2) s1 s2 h d)⟩
 |[.Attribute o f ap]=>gd (decide (x="len")&&(zbb nm x&&G.blt x)) fun j=>(faG G nm N (.Attribute o f ap)).bind fun t=>gd (zt8 t.f) fun _=>ziS false (zgN G.ob.cur t.f t.i) fun g=>⟨nofun,by
  simp only[yab]at j;obtain⟨b,h1,h2⟩:=j;obtain rfl:=yai b;obtain⟨i,n,ok⟩:=t;obtain⟨x,p,m,e,s1,s2,h,d,fk⟩:=ok g;cases e
  exact zqC (y:="") s1 s2 h d g.same fk rfl (g.glob h1).1 (g.gok.blt _ h2)⟩
 |_=>none
def zvY{cl k X E}(g:Gx cl G k X nm N E)(hg:zbb nm x=true)(hm:G.ob.mks x=some (I,fi))(J:args.isEmpty=false)(a:DL G nm N args)(U:args.length+I.length+1=fi.ar):PE X (.Call (.Name x p) args [] pos) (tE cl E (eMk x I fi.run a.fs)):=by
 obtain⟨f,fd,ps,dvs,ds,k',h,d,M,j,i,b,c,F⟩:=g.gok.mks x I fi hm;obtain⟨g1,g2,g3⟩:=g.glob hg
 cases args with
 |nil=>cases J|cons e es=>
  have a2:=a.q;rw[ybq,yab]at a2;exact PE.imp (zop M F (g.room.mono h) g1 d i b g.pass (a.ok g) g2 (zbI a2.1) (zca a2.2)) fun _ _ _ q=>zzx c q (by rw[a.l];exact U)
def mkG(nm:Names)(N:List Str)(x:Str)(p pos:Pos)(args:List Expr):Option (Dn G nm N (.Call (.Name x p) args [] pos)):=match hm:G.ob.mks x with
 |some c=>gd (zbb nm x&&(!args.isEmpty&&decide (args.length+c.1.length+1=c.2.ar))) fun b=>(shL rc nm N args).bind fun a=>ziS false (eMk x c.1 c.2.run a.fs) fun g=>⟨nofun,by
  simp only[yab,yaV,yaR]at b
  exact zvY g b.1 hm b.2.1 a b.2.2⟩
 |none=>none
noncomputable def zyv(w:Bool)(f:Fe)(h:∀{cl k X E},Gx cl G k X nm N E->(w=true->PE X (.Call (.Attribute o m ap) args [] cp) (tN cl E f))/\PE X (.Call (.Attribute o m ap) args [] cp) (tE cl E f)):Option (Dn G nm N (.Call (.Attribute o m ap) args [] cp)):=some ⟨w,f,rfl,fun g=>⟨(h g).1,(h g).2,fun _=>zjL (h g).2 fun _=>rfl⟩⟩
noncomputable def zp2(o:Expr):Prop:=∀m env,attributeBase o m env (eval o env)=eval o env
structure Bo(o:Expr):Type where
 ok:zp2 o
noncomputable def zzk:∀o,Option (Bo o)|.Name _ _=>some ⟨fun _ _=>rfl⟩|.Call (.Name _ _) (_::_) _ _=>some ⟨fun _ _=>rfl⟩|.Attribute (.Name _ _) _ _=>some ⟨fun _ _=>rfl⟩|_=>none
def zri{cl k X E}(g:Gx cl G k X nm N E)(h1:G.ob.mt m=some (c,fi))(b:zp2 o)(z3:(ap.endLine==pos.line)=true)(z4:args.length<30)(I:args.length+1=fi.ar)(fo:Dn G nm N o)(a:DL G nm N args):
  (fi.own=true->PE X (.Call (.Attribute o m ap) args [] pos) (tN cl E (zaE c m fi.run fo.f a.fs)))/\PE X (.Call (.Attribute o m ap) args [] pos) (tE cl E (zaE c m fi.run fo.f a.fs)):=by
 obtain⟨f,fd,ps,c1,r,p,j⟩:=g.gok.mt m c fi h1
 have hlen:a.fs.length+1=fi.ar:=by rw[a.l];exact I
 have ht:=zmI (ap:=ap) (b m X.env) (zAe (pos:=pos) a.q z4) z3
 have main:PE X (.Call (.Attribute o m ap) args [] pos) (zh7 (cl c) m (zgA cl fi.ar fi.own fi.run) [] E (tE cl E fo.f) (tAs cl E a.fs)):=by
  cases args with
  |nil=>
   have A:a.fs=[]:=ya4 a.l;rw[A];refine PE.imp (zmr (fo.ok g).2.1 c1 r j g.room p .nil g.pass ht) ?_;rintro σ H Q ⟨B,w,ρ,S,rfl,R,q⟩;refine⟨B,w,ρ,S,rfl,R,?_⟩
   cases h:fo.f ρ S with
   |bad=>rwa[h]at q|exc c S1=>rwa[h]at q|ok d S1=>
    rw[h]at q;intro v t C F1 sh;obtain⟨a,dx,fs,z,y,x,F,w',s,S',u,D,q⟩:=q v t C F1 sh;refine⟨a,dx,fs,z,y,x,?_⟩;have:=q [] w' D (Fut.refl _) .nil;rwa[u]at this
  |cons e es=>
   have a2:=a.q;rw[ybq,yab]at a2;exact zoo (fo.ok g).2.1 c1 r j g.room p .nil g.pass (a.ok g) (zbI a2.1) (zca a2.2) ht
 cases i:fi.own with
 |false=>
  rw[i]at main;exact⟨nofun,PE.imp main fun _ _ _ q=>zt6 q hlen⟩
 |true=>
  rw[i]at main;have n:=PE.imp main fun _ _ _ q=>zt5 q hlen
  exact⟨fun _=>n,zfS n⟩
noncomputable def zzt(nm:Names)(N:List Str)(o:Expr)(m:Str)(ap cp:Pos):∀args,Option (Dn G nm N (.Call (.Attribute o m ap) args [] cp))
 |[]=>gd (decide (m="pop")&&(ap.endLine==cp.line)) fun a=>(faG G nm N o).bind fun t=>gd (zt8 t.f) fun _=>zyv false (zk9 G.ob.cur t.f t.i) fun g=>⟨nofun,by
   rw[yab]at a;obtain rfl:=yai a.1;obtain⟨i,f,ok⟩:=t;obtain⟨x,p,d,rfl,s1,s2,c,b,fk⟩:=ok g
   exact zqA s1 s2 c b g.same fk rfl rfl a.2⟩
 |_=>none
def zvZ(nm:Names)(N:List Str)(o:Expr)(m:Str)(ap cp:Pos)(args:List Expr):Option (Dn G nm N (.Call (.Attribute o m ap) args [] cp)):=match hm:G.ob.mt m with
 |some c=>gd ((ap.endLine==cp.line)&&(decide (args.length<30)&&decide (args.length+1=c.2.ar))) fun d=>(zzk o).bind fun b=>(rc nm N o).bind fun fo=>(shL rc nm N args).bind fun a=>zyv c.2.own (zaE c.1 m c.2.run fo.f a.fs) fun g=>by
  simp only[yab,yaR]at d;exact zri g hm b.ok d.1 d.2.1 d.2.2 fo a
 |none=>none
def zws(nm:Names)(N:List Str)(args:List Expr)(cp:Pos):∀f I,Option (Dn G nm N (.Call f args I cp))
 |.Name x p,[]=>(zz5 rc nm N x p cp args).or ((zz3 rc nm N x p cp args).or ((lrG rc nm N x p cp args).or ((mkG rc nm N x p cp args).or (zwy rc nm N x p cp args))))|.Attribute o m ap,[]=>(zzt nm N o m ap cp args).or (zvZ rc nm N o m ap cp args)|_,_=>none
end
noncomputable def zwe:Option NameKind->Bool|some .local=>true|some .cell=>true|_=>false
structure Ti(G:Genv)(nm:Names)(N:List Str)(n:Nat)(x:Str)where
 i:Nat
 ok:∀{cl k X E},Gx cl G k X nm N E->i<n/\X.N.Nodup/\X.N[i]?=some x/\Loc X.env.scope x/\(X.fn x=true\/X.env.scope.names.lookup x=some .local)
structure Tgs(G:Genv)(nm:Names)(N:List Str)(n:Nat)(es:List Expr)where
 is:List Nat
 ok:∀{cl k X E},Gx cl G k X nm N E->PGs X es (tGs cl n is)/\(assignEach es X.env).length=is.length/\(assignEach es X.env).findIdx? (·.1)=none
structure Dt(G:Genv)(nm:Names)(N:List Str)(n:Nat)(tg:Expr)where
 t:Tg
 ok:∀{cl k X E},Gx cl G k X nm N E->PG X tg (tG cl n t)
section
variable{G:Genv}(rc:Rec G){nm:Names}{N:List Str}{e:Expr}
def tgI(G:Genv)(nm:Names)(N:List Str)(n:Nat)(x:Str):Option (Ti G nm N n x):=gd (zwe (nm.lookup x)) fun a=>match hi:idx N x with
 |some i=>gd (decide (i<n)) fun f=>some ⟨i,fun g=>by
  refine⟨yai f,by rw[g.eN];exact g.nd,by rw[g.eN];exact zgl hi,?_⟩
  cases b:nm.lookup x with
  |none=>rw[b]at a;cases a|some c=>
   obtain⟨d,e,z⟩:=g.vis x c b;rw[b]at a
   cases c with
   |«local»=>
    rcases z with rfl|⟨z,_⟩
    ·exact⟨.inl e,.inr e⟩
    ·cases z
   |cell=>
    rcases z with rfl|⟨z,_⟩
    ·exact⟨.inr e,.inl (g.fnc x b)⟩
    ·cases z
   |_=>cases a⟩
 |none=>none
noncomputable def zxp(G:Genv)(nm:Names)(N:List Str)(n:Nat):∀es,Option (Tgs G nm N n es)
 |[]=>some ⟨[],fun _=>⟨zqw,rfl,rfl⟩⟩|.Name x pos::es=>(tgI G nm N n x).bind fun a=>(zxp G nm N n es).map fun b=>⟨a.i::b.is,fun g=>by
   obtain⟨a1,a2,j,h,f⟩:=a.ok g;obtain⟨e,d,c⟩:=b.ok g;refine⟨znV a1 a2 j h f e,congrArg (·+1) d,?_⟩;show((false,assign (.Name x pos) _)::assignEach es _).findIdx? (·.1)=none;rw[List.findIdx?_cons]
   simp[c]⟩
 |_::_=>none
def tgG(G:Genv)(nm:Names)(N:List Str)(n:Nat):∀tg,Option (Dt G nm N n tg)
 |.Name x _=>(tgI G nm N n x).map fun a=>⟨.one a.i,fun g=>by
   obtain⟨a1,a2,j,h,f⟩:=a.ok g
   exact zsV a1 a2 j h f⟩
 |.Tuple es _ _=>(zxp G nm N n es).map fun b=>⟨.tup b.is,fun g=>by
   obtain⟨e,d,c⟩:=b.ok g
   exact zsU g.calm e d c⟩
 |_=>none
structure Di(G:Genv)(nm:Names)(N:List Str)(tg e:Expr)where
 f:Fi
 q:okE e=true
 ok:∀{cl k X E},Gx cl G k X nm N E->PI X tg e (tI cl E f)
def zwH(tg:Expr)(a:Dn G nm N e):Di G nm N tg e:=⟨zbe a.f,a.q,fun g=>zsS g.kk (a.ok g).2.1⟩
noncomputable def zyz(nm:Names)(N:List Str)(x:Str)(p pos:Pos)(a b:Expr):∀tg,Option (Di G nm N tg (.Call (.Name x p) [a,b] [] pos))
 |.Tuple es kk tp=>gd (decide (x="zip")&&(zbb nm x&&G.blt x)) fun c=>(rc nm N a).bind fun fa=>(rc nm N b).map fun fb=>⟨zk7 fa.f fb.f,rfl,fun g=>by
   simp only[yab]at c;obtain rfl:=yai c.1
   exact zsP (g.glob c.2.1).1 (g.gok.blt _ c.2.2) (zfa (fa.ok g).2.1 (zfa (fb.ok g).2.1 zid (zbI (zas fb.q))) (zbI (zas fa.q))) (zbI (zas fa.q)) (zca (by simp[zas fb.q]))⟩
 |_=>none
def zzi(nm:Names)(N:List Str)(tg:Expr)(x:Str)(p pos:Pos)(a:Expr):Option (Di G nm N tg (.Call (.Name x p) [a] [] pos)):=gd (decide (x="range")&&(zbb nm x&&G.blt x)) fun b=>(rc nm N a).map fun fa=>⟨zdt fa.f,rfl,fun g=>by
   simp only[yab]at b;obtain rfl:=yai b.1
   exact zqt (g.glob b.2.1).1 (g.gok.blt _ b.2.2) (zfa (fa.ok g).2.1 zid (zbI (zas fa.q))) (zbI (zas fa.q))⟩
noncomputable def zwq(nm:Names)(N:List Str)(x:Str)(p pos:Pos)(a:Expr):∀tg,Option (Di G nm N tg (.Call (.Name x p) [a] [] pos))
 |.Tuple es kk tp=>gd (decide (x="enumerate")&&(zbb nm x&&G.blt x)) fun b=>(rc nm N a).map fun fa=>⟨zlb fa.f,rfl,fun g=>by
   simp only[yab]at b;obtain rfl:=yai b.1
   exact zqu (g.glob b.2.1).1 (g.gok.blt _ b.2.2) (zfa (fa.ok g).2.1 zid (zbI (zas fa.q))) (zbI (zas fa.q))⟩
 |_=>none
def zup(nm:Names)(N:List Str)(tg:Expr):∀e,Option (Di G nm N tg e)
 |.Call (.Name x p) [a] [] pos=>(zzi rc nm N tg x p pos a).or ((zwq rc nm N x p pos a tg).or ((rc nm N (.Call (.Name x p) [a] [] pos)).map (zwH tg)))|.Call (.Name x p) [a,b] [] pos=>(zyz rc nm N x p pos a b tg).or ((rc nm N (.Call (.Name x p) [a,b] [] pos)).map (zwH tg))|e=>(rc nm N e).map (zwH tg)
noncomputable def zt4:Expr->Option Str|.Name x _=>some x|_=>none
def zbi:Expr->List Str
 |.Name x _=>[x]|.Tuple es _ _=>es.filterMap zt4|_=>[]
def zbs(names:Names)(N:List Str):List (Str×Nat):=names.filterMap fun p=>if p.2=.free then(idx N p.1).map fun i=>(p.1,i)else none
noncomputable def zz4:Option NameKind->Bool|some .cell=>true|some .free=>true|_=>false
def zkw(nm:Names)(scope:Scope)(xs:List Str)(caps:List (Str×Nat)):Bool:=
 decide (scope.kind=.function)&&decide ((scope.names.map (·.1)).Nodup)&&scope.names.all (fun y=>!decide (y.2=.local)||decide (scope.names.lookup y.1=some .local))
 && scope.names.all (fun y=>!decide (y.2=.free)||zz4 (nm.lookup y.1))&&caps.all (fun p=>scope.names.all fun z=>!decide (z.1=p.1)||decide (z.2=.free))&&decide ((xs++caps.map (·.1)).Nodup)
def zf3{env:PySem.Env}{x:Str}{J:NameKind}{names:Names}(h:names.lookup x=some J):
  ∃I,(names.map fun(n,k)=>if(k==NameKind.free&&env.scope.kind==.function&&env.kindOf n==some .cell)then(n,NameKind.cell)else(n,k)).lookup x=some I/\(I=J\/(J=.free/\I=.cell)):=by
 induction names with
 |nil=>cases h|cons p r c=>
  obtain⟨n,k0⟩:=p;rw[yaA]at h;rw[yav];dsimp only
  by_cases b:(k0==NameKind.free&&env.scope.kind==.function&&env.kindOf n==some .cell)=true
  ·rw[if_pos b,yaA]
   cases a:x==n with
   |true=>
    rw[a]at h;cases h;simp only[yab,yce]at b;exact⟨_,rfl,.inr ⟨b.1.1,rfl⟩⟩
   |false=>rw[a]at h;exact c h
  ·rw[if_neg b,yaA]
   cases a:x==n with
   |true=>rw[a]at h;cases h;exact⟨_,rfl,.inl rfl⟩|false=>rw[a]at h;exact c h
def zld{cl k X E}(g:Gx cl G k X nm N E)(h:zkw nm scope xs (zbs scope.names N)=true):CompScopeG X.env.scope scope X.N xs (zbs scope.names N)/\(xs++(zbs scope.names N).map (·.1)).Nodup:=by
 unfold zkw at h;simp only[yab,ybG,yaR,Bool.or_eq_true,yaV,yb1]at h;obtain⟨⟨⟨⟨⟨h1,h2⟩,s⟩,h4⟩,r⟩,o⟩:=h
 have fr:∀y∈scope.names,y.2=.free->X.env.scope.names.lookup y.1=some .cell\/X.env.scope.names.lookup y.1=some .free:=fun y c hf=>by
  rcases h4 y c with z|z
  ·exact absurd hf z
  ·cases d:nm.lookup y.1 with
   |none=>rw[d]at z;cases z|some l=>
    obtain⟨b,e,j⟩:=g.vis y.1 l d;rw[d]at z;rw[e]
    rcases j with rfl|⟨_,rfl⟩
    ·cases b<;>first|exact .inl rfl|exact .inr rfl|cases z
    ·exact .inl rfl
 refine⟨⟨h2,h1,fun y c n=>(s y c).elim (fun z=>absurd n z) fun z=>z,fr,fun p a=>?_,fun p a z m e=>(r p a z m).elim (fun w=>absurd e w) fun w=>w⟩,o⟩;unfold zbs at a;obtain⟨q,f,e⟩:=ycy.mp a;split at e
 ·rename_i hf
  cases hi:idx N q.1 with
  |none=>rw[hi]at e;cases e|some i=>
   rw[hi]at e;have t:(q.1,i)=p:=Option.some.inj e;subst t;refine⟨by rw[g.eN];exact zgl hi,by rw[<-hf];exact f,?_⟩
   rcases fr q f hf with z|z<;>rw[z]<;>exact fun w=>by cases w
 ·cases e
def zhG{cl k X E}(g:Gx cl G k X nm N E)(U:(xs++(zbs scope.names N).map (·.1)).Nodup)(J:List (Str×Addr))(C:Addr)(s:Shared)(H:Hp)(fp:List Addr):
  Gx cl G k (za7 X xs (zbs scope.names N) scope J C s H fp) scope.names (xs++(zbs scope.names N).map (·.1)) noE where
 gok:=g.gok
 room:=g.room
 calm:=g.calm
 pass:=fun pins σ H s e s' I q=>by
  obtain⟨a,cls,a0,H',B,_,_,_,_,_,_,_,_,_,z⟩:=q;exact z.elim
 eN:=rfl
 kk:=g.kk
 pp:=g.pp
 ww:=g.ww
 nd:=U
 vis:=fun x b h=>zf3 h
 fnx:=fun x h=>lookup_relabel_local h
 fnc:=fun x h=>yaB h
structure Dif(G:Genv)(nm:Names)(N:List Str)(ifs:List Expr)where
 f:Fe
 ok:∀{cl k X},Gx cl G k X nm N noE->PIf X ifs (tTr cl noE f)
def zwu(nm:Names)(N:List Str):∀ifs,Option (Dif G nm N ifs)
 |[]=>some ⟨zeY,fun _ pins s σ H Q I q=>by
   obtain⟨B,w,ρ,S,rfl,R,q⟩:=q
   exact zmn pins s σ w.H Q I (q w R (Fut.refl _))⟩
 |[c]=>gd (zcH c) fun ht=>(rc nm N c).map fun a=>⟨a.f,fun g=>zqU ((a.ok g).2.2 ht)⟩|_=>none
noncomputable def zuW(cl:Cf)(X:Cx)(E:St->XK)(N:List Str)(elt:Expr)(I:Comprehension)(scope:Scope)(J:Fe->TE)(mk:Nat->Tg->Fi->Fe->Fe->List Nat->Fe)(f:Fe):Prop:=∃it t c b,f=mk (zbi I.target).length t it c b ((zbs scope.names N).map (·.2))/\I=⟨I.target,I.iter,I.ifs,0⟩/\CompScopeG X.env.scope scope X.N (zbi I.target) (zbs scope.names N)/\PI X I.target I.iter (tI cl E it)/\okE I.iter=true ∧
   (∀a C s H fp,PG (za7 X (zbi I.target) (zbs scope.names N) scope a C s H fp) I.target (tG cl (zbi I.target).length t)) ∧
   (∀a C s H fp,PIf (za7 X (zbi I.target) (zbs scope.names N) scope a C s H fp) I.ifs (tTr cl noE c)) ∧
   ∀a C s H fp,PE (za7 X (zbi I.target) (zbs scope.names N) scope a C s H fp) elt (J b)
structure Dc(G:Genv)(nm:Names)(N:List Str)(elt:Expr)(gg:Comprehension)(scope:Scope)where
 f:Fe
 ok:∀{cl k X E},Gx cl G k X nm N E->zuW cl X E N elt gg scope (tE cl noE) zb2 f
def zuC{cl k X E}(J:(decide (I.is_async=0)&&zkw nm scope (zbi I.target) (zbs scope.names N))=true)(it:Di G nm N I.target I.iter)(t:Dt G scope.names (zbi I.target++(zbs scope.names N).map (·.1)) (zbi I.target).length I.target)(c:Dif G scope.names (zbi I.target++(zbs scope.names N).map (·.1)) I.ifs)
  (he:∀{X},Gx cl G k X scope.names (zbi I.target++(zbs scope.names N).map (·.1)) noE->PE X elt (U el)) (g:Gx cl G k X nm N E):zuW cl X E N elt I scope U mk (mk (zbi I.target).length t.t it.f c.f el ((zbs scope.names N).map (·.2))):=by
 rw[yab]at J;obtain⟨S,b⟩:=zld g J.2;refine⟨_,_,_,_,rfl,?_,S,it.ok g,it.q,fun a C s H fp=>t.ok (zhG g b a C s H fp),fun a C s H fp=>c.ok (zhG g b a C s H fp),fun a C s H fp=>he (zhG g b a C s H fp)⟩;have:=yai J.1;clear it t c S b g he;cases I;simp only at this;rw[this]
def zuD(nm:Names)(N:List Str)(elt:Expr)(I:Comprehension)(scope:Scope):Option (Dc G nm N elt I scope):=
 gd (decide (I.is_async=0)&&zkw nm scope (zbi I.target) (zbs scope.names N)) fun a=>
  (zup rc nm N I.target I.iter).bind fun it=>
  (tgG G scope.names (zbi I.target++(zbs scope.names N).map (·.1)) (zbi I.target).length I.target).bind fun t=>
  (zwu rc scope.names (zbi I.target++(zbs scope.names N).map (·.1)) I.ifs).bind fun c=>
  (rc scope.names (zbi I.target++(zbs scope.names N).map (·.1)) elt).map fun b=>⟨_,fun g=>zuC a it t c (fun g=>(b.ok g).2.1) g⟩
def Dc.n{cl k X E}{elt:Expr}{I:Comprehension}{scope:Scope}{pos:Pos}(c:Dc G nm N elt I scope)(g:Gx cl G k X nm N E):PE X (.ListComp elt [I] scope pos) (tN cl E c.f):=by
 obtain⟨it,t,c',i,e,h,S,i1,i2,d,b,a⟩:=c.ok g;rw[e,h];exact PE.imp (zj3 g.calm S i1 d b a (zhz i2)) fun _ _ _ q=>zpX q
structure Dop(G:Genv)(nm:Names)(N:List Str)(o:Option Expr)where
 f:Option Fe
 ok:∀{cl k X E},Gx cl G k X nm N E->PO X o (zu1 cl E f)
def zxy(nm:Names)(N:List Str):∀o,Option (Dop G nm N o)
 |none=>some ⟨none,fun _=>zqR⟩|some e=>(opE rc nm N e).map fun a=>⟨some a.f,fun g=>zqQ (a.ok g)⟩
structure Px(i:Expr):Type where
 ok:zhV i
noncomputable def ixO:∀i,Option (Px i)|.Name _ _=>some ⟨fun _ _=>rfl⟩|.Constant _ _ _=>some ⟨fun _ _=>rfl⟩|.BinOp _ _ _ _=>some ⟨fun _ _=>rfl⟩|.Subscript _ _ _=>some ⟨fun _ _=>rfl⟩|.Call _ _ _ _=>some ⟨fun _ _=>rfl⟩|.UnaryOp _ _ _=>some ⟨fun _ _=>rfl⟩|_=>none
def zzg(nm:Names)(N:List Str)(a:Expr)(pos:Pos):∀i,Option (Dn G nm N (.Subscript a i pos))
 |.Slice lo hi none _=>(opE rc nm N a).bind fun fa=>(zxy rc nm N lo).bind fun l=>(zxy rc nm N hi).bind fun u=>zkD (eSl fa.f l.f u.f) rfl (fun _ _=>rfl) fun g=>zvD (fa.ok g) (l.ok g) (u.ok g)|i=>(ixO i).bind fun h=>(opE rc nm N a).bind fun fa=>(opE rc nm N i).bind fun fi=>zkD (zaf ixD fa.f fi.f) rfl (fun _ _=>rfl) fun g=>zvF (zwf g.kk) (fa.ok g) (fi.ok g) h.ok
def zz9(nm:Names)(N:List Str)(b:Expr)(pos:Pos):∀i,Option (Dn G nm N (.Subscript b i pos)):=match b with
 |.Attribute (.Name x px) f _=>fun i=>match i with
  |.Name y _=>gd (G.ob.df f&&G.ob.fk G.ob.cur f) fun a=>(slO G nm N y).bind fun s=>(rc nm N (.Name x px)).bind fun fo=>zkD (zla G.ob.cur f fo.f s.i) rfl (fun _ _=>rfl) fun g=>by
   rw[yab]at a;obtain⟨s1,s2,d,c⟩:=s.ok g;exact zqF s1 s2 d c (g.un (by decide)) g.same (g.gok.fk _ _ a.2) (fo.ok g).2.1 rfl (fun _ _=>rfl)
  |_=>none
 |_=>fun _=>none
def zrJ:Rec G:=fun nm N e=>match e with
 |.Constant c _ _=>(match c with
  |.int i=>zkD (zad (.int i)) rfl (fun _ _=>rfl) fun _=>zlS ztB fun w=>.int _|.bool b=>zkD (zad (.bl b)) rfl (fun _ _=>rfl) fun _=>zlS zqZ fun w=>.bl _|.none=>zkD (zad .non) rfl (fun _ _=>rfl) fun _=>zlS zmq fun w=>.non|.str x=>zkD (zad (.str x)) rfl (fun _ _=>rfl) fun _=>zlS ztw fun w=>.str _|_=>none)
 |.Name x _=>(match slO G nm N x with
  |some s=>zkD (zaa s.i) rfl (fun _ _=>rfl) fun g=>(s.v g).1|none=>gd (zbb nm x) fun k=>(match q:G.con x with
   |some d=>zkD (zad d) rfl (fun _ _=>rfl) fun g=>by
    obtain⟨v,u,m,r,sh⟩:=g.gok.con x d q;exact zlS (zms (g.glob k).1 m r (g.glob k).2.1) sh
   |none=>none))
 |.Tuple es _ _=>(shL rc nm N es).bind fun a=>zkD (zcg a.fs) rfl (fun _ _=>rfl) fun g=>zsX (a.ok g)|.List es _=>(shL rc nm N es).bind fun a=>zvX (zee a.fs) rfl (fun _ _=>rfl) fun g=>zs0 (a.ok g)|.BinOp a op b _=>(zAh op).bind fun h=>(opE rc nm N a).bind fun fa=>(opE rc nm N b).bind fun fb=>zkD (zaf h.1 fa.f fb.f) rfl (fun _ _=>rfl) fun g=>zs5 h.2 (fa.ok g) (fb.ok g)|.UnaryOp op a _=>(match op with
  |.Not=>gd (zcH a) fun ht=>(rc nm N a).map fun fa=>⟨false,eUn zeP fa.f,rfl,fun g=>⟨nofun,zsY (fa.ok g).2.1,fun _=>zsA ((fa.ok g).2.2 ht)⟩⟩|.USub=>(opE rc nm N a).bind fun fa=>zkD (eUn zrf fa.f) rfl (fun _ _=>rfl) fun g=>zvC zsh (fa.ok g)|_=>none)
 |.BoolOp op es _=>(zuM rc nm N op es).map fun b=>⟨false,b.f,rfl,fun g=>⟨nofun,(b.ok g).1,fun _=>(b.ok g).2.pt⟩⟩|.Compare a ops bs p=>(zzw rc nm N a p ops bs).or (zwv rc nm N a p ops bs)|.IfExp c a b _=>gd (zcH c) fun ht=>(rc nm N c).bind fun fc=>(rc nm N a).bind fun fa=>(rc nm N b).map fun fb=>⟨false,eIf fc.f fa.f fb.f,rfl,fun g=>⟨nofun,zvG ((fc.ok g).2.2 ht) (fa.ok g).2.1 (fb.ok g).2.1,nofun⟩⟩|.Subscript a i pos=>(zz9 rc nm N a pos i).or (zzg rc nm N a pos i)|.Attribute (.Name x p) f _=>gd (G.ob.fk G.ob.cur f) fun hf=>gd (!G.ob.df f) fun _=>(rc nm N (.Name x p)).bind fun fo=>zkD (ze6 G.ob.cur f fo.f) rfl (fun _ _=>rfl) fun g=>zs2 (g.gok.fk _ _ hf) g.kk (fo.ok g).2.1 rfl|.Call f args j cp=>zws rc nm N args cp f j|.ListComp elt [h] scope _=>(zuD rc nm N elt h scope).bind fun c=>zvX c.f rfl (fun _ _=>rfl) fun g=>c.n g|.Dict [some (.Name x _)] [.Constant (.bool true) _ _] _=>(slO G nm N x).bind fun s=>zvX (zg8 s.i) rfl (fun _ _=>rfl) fun g=>by
  obtain⟨s1,s2,o,l⟩:=s.ok g;exact znY (g.un (by decide)) g.same s1 s2 o l
 |_=>none
end
noncomputable def zys(G:Genv):Nat->Rec G
 |0=>fun _ _ _=>none|n+1=>zrJ (zys G n)
mutual
noncomputable def D.okt(b:Bool):Nat->D->Bool
 |_,.non=>true|_,.bl _=>true|_,.int _=>true|_,.str x=>PyData.strOk x|n+1,.tup l=>decide (l.length<=100000)&&D.okts b n l|n+1,.lst l=>b&&(decide (l.length<=100000)&&D.okts b n l)|_,_=>false
noncomputable def D.okts(b:Bool):Nat->List D->Bool
 |_,[]=>true|n,d::l=>D.okt b n d&&D.okts b n l
end
theorem zj7{b:Bool}{n:Nat}:∀{ds:List D},D.okts b n ds=true->∀{i:Nat}{d:D},ds[i]?=some d->d.okt b n=true
 |[],_,i,d,e=>by simp at e
 |x::l,h,0,d,e=>by
  simp only[D.okts,yab]at h;simp at e;subst e;exact h.1
 |x::l,h,i+1,d,e=>by
  simp only[D.okts,yab]at h;exact zj7 h.2 (i:=i) (by simpa using e)
mutual
inductive Tr(T L:Addr->Prop)(H:Hp):V->D->Prop
 |non:Tr T L H .non .non
 |bl (b:Bool):Tr T L H (.bl b) (.bl b)
 |int (i:Int):Tr T L H (.int i) (.int i)
 |str (x:Str):Tr T L H (.str x) (.str x)
 |tup {a:Addr}{xs:List V}{ds:List D}:T a->H a=some (.tup xs)->ds.length<=1000000->Trs T L H xs ds->Tr T L H (.ref a) (.tup ds)
 |lst {a:Addr}{xs:List V}{ds:List D}:L a->H a=some (.lst xs)->ds.length<=1000000->Trs T L H xs ds->Tr T L H (.ref a) (.lst ds)
inductive Trs(T L:Addr->Prop)(H:Hp):List V->List D->Prop
 |nil:Trs T L H [] []
 |cons {v:V}{d:D}{vs:List V}{ds:List D}:Tr T L H v d->Trs T L H vs ds->Trs T L H (v::vs) (d::ds)
end
def Tr.up{T L I J:Addr->Prop}{H H':Hp}(f:∀a,T a->I a)(g:∀a,L a->J a)(s:zgC H H'){v:V}{d:D}(h:Tr T L H v d):Tr I J H' v d:=
 Tr.rec (motive_1:=fun v d _=>Tr I J H' v d) (motive_2:=fun vs ds _=>Trs I J H' vs ds) .non .bl .int .str (fun n e l _ t=>.tup (f _ n) (s _ _ e) l t) (fun n e l _ t=>.lst (g _ n) (s _ _ e) l t) .nil (fun _ _ a b=>.cons a b) h
section
variable{T L:Addr->Prop}{H:Hp}
def Trs.ind{p:List V->List D->Prop}(n:p [] [])(c:∀{v d vs ds},Tr T L H v d->Trs T L H vs ds->p vs ds->p (v::vs) (d::ds)){vs:List V}{ds:List D}(h:Trs T L H vs ds):p vs ds:=by
 induction vs generalizing ds with
 |nil=>cases h;exact n|cons v vs e=>cases h with|cons a b=>exact c a b (e b)
theorem Trs.up{I J:Addr->Prop}{H':Hp}(f:∀a,T a->I a)(g:∀a,L a->J a)(s:zgC H H'){vs:List V}{ds:List D}(h:Trs T L H vs ds):Trs I J H' vs ds:=h.ind (p:=fun vs ds=>Trs I J H' vs ds) .nil fun a _ t=>.cons (a.up f g s) t
theorem Trs.length{vs:List V}{ds:List D}(h:Trs T L H vs ds):vs.length=ds.length:=h.ind (p:=fun vs ds=>vs.length=ds.length) rfl fun _ _ t=>congrArg Nat.succ t
def Trs.get{vs:List V}{ds:List D}(h:Trs T L H vs ds):∀{i:Nat}{v:V},vs[i]?=some v->∃d,ds[i]?=some d/\Tr T L H v d:=
 h.ind (p:=fun vs ds=>∀{i:Nat}{v:V},vs[i]?=some v->∃d,ds[i]?=some d/\Tr T L H v d) (fun e=>nomatch e) fun r _ t i _ e=>by
  cases i with
  |zero=>cases e;exact⟨_,rfl,r⟩|succ i=>exact t e
def Trs.snoc{v:V}{d:D}(r:Tr T L H v d){vs:List V}{ds:List D}(h:Trs T L H vs ds):Trs T L H (vs++[v]) (ds++[d]):=h.ind (p:=fun vs ds=>Trs T L H (vs++[v]) (ds++[d])) (.cons r .nil) fun q _ t=>.cons q t
end
noncomputable abbrev TrA(H:Hp):V->D->Prop:=Tr (fun _=>True) (fun _=>True) H
noncomputable abbrev TrsA(H:Hp):List V->List D->Prop:=Trs (fun _=>True) (fun _=>True) H
noncomputable abbrev TrN(I H:Hp):V->D->Prop:=Tr (fun a=>I a=none) (fun a=>I a=none) H
noncomputable abbrev TrsN(I H:Hp):List V->List D->Prop:=Trs (fun a=>I a=none) (fun a=>I a=none) H
noncomputable def zco(n:Nat):Sp:=fun vs H Q _=>∃v d m,vs=[v]/\m<n/\TrA H v d/\d.okt true m=true/\∀a H',zgC H H'->TrN H H' a d->Q a H'
def znm{J:It}{u:HO}{a:Addr}{xs:List V}{ds:List D}{H:Hp}{n m:Nat}{Q:VK}{E:XK}(ha:H a=some u)(T:TrsA H xs ds)(hl:ds.length<=1000000)(hf:D.okts true m ds=true)(hm:m<n)
  (go:∀i H x,H a=some u->xs[i]?=some x->J.go i H) (yl:∀i H x H',H a=some u->J.yld i H x H'->H'=H/\xs[i]?=some x) (st:∀i H,H a=some u->xs.length<=i->J.stop i H)
  (fin:∀H' p ys,zgC H H'->H' p=none->TrsN H H' ys ds->Q (.ref p) (upd H' p (.lst ys))):
  ∃W:Nat->Nat->List V->St->Hp->Prop,(∃m,W 0 m [] [none] H)/\∀i m ys U H,W i m ys U H →
   ys.length<=sizeLine/\((J.stop i H/\∀p,H p=none->Q (.ref p) (upd H p (.lst ys))) ∨
   (J.go i H/\∀x H',J.yld i H x H'->zgn 0 x U H' fun I H2=>zu0 I H2 fun ok H3=>if ok=true then zkI (zco n) [] E (ze8 (zhX 0) zll) I H3 fun y H4=>∃m',m'<m/\W (i+1) m' (ys++[y]) I H4 else ∃m',m'<m/\W (i+1) m' ys I H3)):=by
 have z:=T.length;refine⟨fun i m0 ys U H'=>m0=xs.length-i/\i<=xs.length/\0<U.length/\zgC H H'/\TrsN H H' ys (ds.take i),⟨_,rfl,yaF _,by decide,zgC.refl H,.nil⟩,?_⟩;rintro i m0 ys q H1 ⟨rfl,hi,j,S1,g⟩;have c:=S1 a u ha
 have t:ys.length<=sizeLine:=by
  rw[g.length,ybF];exact yak (Nat.min_le_right _ _) (yak hl (by decide))
 refine⟨t,?_⟩
 by_cases e:i<xs.length
 ·have ex:xs[i]?=some xs[i]:=yad e;generalize xs[i]=x at ex;obtain⟨d,l,s⟩:=T.get ex;refine .inr ⟨go i H1 x c ex,fun y H' r=>?_⟩;obtain⟨rfl,k⟩:=yl i H1 y H' c r;rw[ex]at k;cases k;unfold zgn zu0;dsimp only;rw[if_pos rfl];refine⟨x,yam j,x,d,m,rfl,hm,s.up (fun _ h=>h) (fun _ h=>h) S1,zj7 hf l,fun y H4 o w=>⟨_,by omega,rfl,e,by rw[yau];exact j,S1.trans o,?_⟩⟩;rw[ycQ,l];exact Trs.snoc (w.up (fun b f=>S1.free f) (fun b f=>S1.free f) (zgC.refl _)) (g.up (fun _ h=>h) (fun _ h=>h) o)
 ·refine .inl ⟨st i H1 c (yc4.mp e),fun p v=>fin H1 p ys S1 v ?_⟩;rwa[yb7 (by omega)]at g
noncomputable def zr7:List (Str×NameKind):=[(".0",.local),("_law_one",.local),("_law_copied",.globalImplicit)]
section
variable{X:Cx}{CX:CXT}{k n:Nat}{f:Addr}{fd:FuncData}{scope:Scope}{p1 p2 p3 p4 p5 p6:Pos}
def znn{iter:Expr}{wi:L2.TI}(cm:X.calm=true)(J:scope.names=zr7)(hk:scope.kind=.function)(ms:X.mg "_law_copied"=some (.ref f))(kp:PySem.W.keepIn X.K (.ref f)=true)(bd:zbz X.K fd ["_law_thing"] [])(F:FnOk X.prog X.w X.K X.mg X.base (CXE X.prog X.w) k f fd ["_law_thing"] (zco n))(U:Room k X.A)
  (hi:PI X (.Name "_law_one" p4) iter wi) (hs:∀v,foldedSetIterable iter X.env v=pure v):
  PE X (.ListComp (.Call (.Name "_law_copied" p1) [.Name "_law_one" p2] [] p3) [⟨.Name "_law_one" p4,iter,[],0⟩] scope p5) (zh8 wi (zgn 0) zu0 (zkI (zco n) [] E0 (ze8 (zhX 0) zll)) 1 []):=by
 have c:scope.names.lookup ("_law_one":Str)=some .local:=by rw[J];decide
 have b:scope.names.lookup ("_law_copied":Str)=some .globalImplicit:=by rw[J];decide
 have S:CompScopeG X.env.scope scope X.N ["_law_one"] []:={
  nd:=by rw[J];decide
  kind:=hk
  names:=by rw[J];decide
  free:=by
   rw[J];intro y g hf;simp only[zr7,yan,yaM,ybY]at g
   rcases g with rfl|rfl|rfl<;>cases hf
  cap:=fun p d=>by cases d
  uniq:=fun p d=>by cases d}
 have loc:∀cl C s H fp,(za7 X ["_law_one"] [] scope cl C s H fp).env.scope.names.lookup ("_law_one":Str)=some .local:=fun cl C s H fp=>lookup_relabel_local c
 refine zj3 (xs:=["_law_one"]) (caps:=[]) cm S hi (fun cl C s H fp=>zhw (i:=0) (ybk.mpr ⟨yaM,List.nodup_nil⟩) rfl (.inl (loc cl C s H fp)) (.inr (loc cl C s H fp))) (fun cl C s H fp=>zmn) (fun cl C s H fp=>?_) hs
 have gs:Gl (za7 X ["_law_one"] [] scope cl C s H fp) "_law_copied":=by
  obtain⟨h,e,z⟩:=zf3 (env:=X.env) b
  rcases z with rfl|⟨z,_⟩
  ·exact e
  ·cases z
 exact zhx (X:=za7 X ["_law_one"] [] scope cl C s H fp) (CX:=CXE X.prog X.w) (E:=E0) F U gs ms kp bd .nil (fun pins σ H s e s' I q=>by
  obtain⟨a,cls,a0,H',B,_,_,_,_,_,_,_,_,_,z⟩:=q
  exact z.elim) (zam (za0 (i:=0) rfl (.inl (loc cl C s H fp)) (by decide) (by decide)) zaQ)
end
noncomputable def tCp(n:Nat):TS:=fun D σ H=>∃v d m,σ[0]?=some (some v)/\m<n/\TrA H v d/\d.okt true m=true/\∀a H',zgC H H'->TrN H H' a d->D.rt a H'
def zua{K:PySem.W.Frag}{H:Hp}{v:V}{d:D}(t:TrA H v d)(h:d.okt true 0=true):∃T,TyS H v T/\PySem.W.kitOne K (.type T) (.type "list")=some false/\PySem.W.kitOne K (.type T) (.type "tuple")=some false/\PySem.W.kitOne K (.type T) (.type "dict")=some false:=by
 cases t with
 |non=>exact⟨_,.non,by with_unfolding_all rfl,by with_unfolding_all rfl,by with_unfolding_all rfl⟩
 |bl b=>exact⟨_,.bl b,by with_unfolding_all rfl,by with_unfolding_all rfl,by with_unfolding_all rfl⟩
 |int i=>exact⟨_,.int i,by with_unfolding_all rfl,by with_unfolding_all rfl,by with_unfolding_all rfl⟩
 |str x=>exact⟨_,.str x,by with_unfolding_all rfl,by with_unfolding_all rfl,by with_unfolding_all rfl⟩
 |tup _ _ _ _=>simp[D.okt]at h|lst _ _ _ _=>simp[D.okt]at h
def zrN{X:Cx}{k n:Nat}{f:Addr}{fd:FuncData}{ab:List Stmt}{U I:Scope}{q1 q2 q3 q4 q5 q6 q7 q8 q9 aa a9 a8 r1 r2 r3 r4 r5 r6 r7 r8 r9 a7 a6 a5 a4 a3 s1 s2 s3 s4 s5 t1 t2:Pos}
  (n0:X.N[0]?=some ("_law_thing":Str)) (v0:Vis X.env.scope "_law_thing") (gi:Gl X "isinstance") (mi:X.mg "isinstance"=none) (gl:Gl X "list") (ml:X.mg "list"=none) (gt:Gl X "tuple") (mt:X.mg "tuple"=none) (gd:Gl X "dict") (md:X.mg "dict"=none)
  (ms:X.mg "_law_copied"=some (.ref f)) (kp:PySem.W.keepIn X.K (.ref f)=true) (bd:zbz X.K fd ["_law_thing"] []) (F:FnOk X.prog X.w X.K X.mg X.base (CXE X.prog X.w) k f fd ["_law_thing"] (zco n)) (rm:Room k X.A) (cm:X.calm=true)
  (h1:U.names=zr7) (h2:U.kind=.function) (h3:I.names=zr7) (h4:I.kind=.function):
  PSs X [.If (.Call (.Name "isinstance" q1) [.Name "_law_thing" q2,.Name "list" q3] [] q4) [.Return (some (.ListComp (.Call (.Name "_law_copied" q5) [.Name "_law_one" q6] [] q7) [⟨.Name "_law_one" q8,.Name "_law_thing" q9,[],0⟩] U aa)) a9] [] a8,
   .If (.Call (.Name "isinstance" r1) [.Name "_law_thing" r2,.Name "tuple" r3] [] r4) [.Return (some (.Call (.Name "tuple" r5) [.ListComp (.Call (.Name "_law_copied" r6) [.Name "_law_one" r7] [] r8) [⟨.Name "_law_one" r9,.Name "_law_thing" a7,[],0⟩] I a6] [] a5)) a4] [] a3,
   .If (.Call (.Name "isinstance" s1) [.Name "_law_thing" s2,.Name "dict" s3] [] s4) ab [] s5,.Return (some (.Name "_law_thing" t1)) t2] (tCp (n+1)):=by
 have nm:∀pos,PE X (.Name "_law_thing" pos) (zhX 0):=fun pos=>za0 n0 v0 (by decide) (by decide)
 have tl:∀pos,PE X (.Name "list" pos) (tC (.ty "list")):=fun pos=>zdP gl ml (by decide +kernel) rfl
 have tt:∀pos,PE X (.Name "tuple" pos) (tC (.ty "tuple")):=fun pos=>zdP gt mt (by decide +kernel) rfl
 have E:∀pos,PE X (.Name "dict" pos) (tC (.ty "dict")):=fun pos=>zdP gd md (by decide +kernel) rfl
 have B:=zbA (p:=q1) (pos:=q4) zb3 gi mi zcc (zam (nm q2) (zam (tl q3) zaQ));have z:=zbA (p:=r1) (pos:=r4) zb3 gi mi zcc (zam (nm r2) (zam (tt r3) zaQ));have s:=zbA (p:=s1) (pos:=s4) zb3 gi mi zcc (zam (nm s2) (zam (E s3) zaQ));have c1:=znn (p1:=q5) (p2:=q6) (p3:=q7) (p5:=aa) cm h1 h2 ms kp bd F rm (zhv (tg:=.Name "_law_one" q8) (nm q9)) (fun _=>rfl);have G:=zeL (p:=r5) (pos:=a5) zdw gt mt zfl (zam (znn (p1:=r6) (p2:=r7) (p3:=r8) (p5:=a6) cm h3 h4 ms kp bd F rm (zmo (tg:=.Name "_law_one" r9) (nm a7)) (fun _=>rfl)) zaQ);refine PSs.imp (zb7 (zjg (pos:=a8) (zf5 B) (zdN (zgX (pos:=a9) c1)) zen) (zb7 (zjg (pos:=a3) (zf5 z) (zdN (zgX (pos:=a4) G)) zen) (zb7 (zjg (pos:=s5) (zf5 s) (zir (sts:=ab)) zen) (zdN (zgX (pos:=t2) (nm t1)))))) ?_;rintro De σ H ⟨v,d,m,h0,hm,t,hf,fin⟩
 have sn:∀{H':Hp}{q:Addr}{o:HO},H' q=none->zgC H' (upd H' q o):=fun c b u e=>by rw[zai (zal e c)];exact e
 by_cases g:d.okt true 0=true
 ·obtain⟨T,ty,k1,k2,k3⟩:=zua (K:=X.K) t g
  have C:TrN H H v d:=by
   cases t with
   |tup _ _ _ _=>simp[D.okt]at g|lst _ _ _ _=>simp[D.okt]at g|non=>exact .non|bl b=>exact .bl b|int i=>exact .int i|str x=>exact .str x
  exact⟨v,h0,v,_,"list",false,rfl,ty.ty,k1,false,rfl,zhE ⟨v,h0,v,_,"tuple",false,rfl,ty.ty,k2,false,rfl,zhE ⟨v,h0,v,_,"dict",false,rfl,ty.ty,k3,false,rfl,zhE ⟨v,h0,fin v H (zgC.refl H) C⟩⟩⟩⟩
 ·cases t with
  |non=>simp[D.okt]at g|bl b=>simp[D.okt]at g|int i=>simp[D.okt]at g|str x=>simp only[D.okt]at hf g;exact absurd hf g| @tup a xs ds _ e l ts=>
   cases m with
   |zero=>simp[D.okt]at hf|succ m=>
    simp only[D.okt,Bool.true_and,yab]at hf;refine⟨.ref a,h0,.ref a,_,"list",false,rfl,.tup e,zoM.2.2,false,rfl,zhE ⟨.ref a,h0,.ref a,_,"tuple",true,rfl,.tup e,by with_unfolding_all rfl,true,rfl,zkh ⟨.ref a,h0,a,rfl,⟨xs,SqT.of e⟩,?_⟩⟩⟩;refine znm (J:=Itt X.K a) (Q:=fun x H1=>∃p ys,[x]=[V.ref p]/\((SqL X.K H1 p ys/\∀l,H1 l=none->De.rt (.ref l) (upd H1 l (.tup ys)))\/(SqT X.K H1 p ys/\De.rt (.ref p) H1))) (m:=m) e ts l hf.2 (Nat.lt_of_succ_lt_succ hm) (fun i H x e ex=>⟨xs,x,SqT.of e,ex⟩) (fun i H x H' e y=>⟨y.1,y.2 xs (SqT.of e)⟩) (fun i H e hi=>⟨xs,SqT.of e,hi⟩) fun H' q ys S1 c r=>⟨q,ys,rfl,.inl ⟨SqL.of zan,fun y j=>?_⟩⟩
    have S2:=S1.trans ((sn (o:=.lst ys) c).trans (sn (o:=.tup ys) j));exact fin (.ref y) _ S2 (.tup ((S1.trans (sn c)).free j) zan l (r.up (fun _ h=>h) (fun _ h=>h) ((sn c).trans (sn j))))
  | @lst a xs ds _ e l ts=>
   cases m with
   |zero=>simp[D.okt]at hf|succ m=>
    simp only[D.okt,Bool.true_and,yab]at hf;refine⟨.ref a,h0,.ref a,_,"list",true,rfl,.lst e,zoN.2.2,true,rfl,zkh ⟨.ref a,h0,a,rfl,⟨xs,SqL.of e⟩,?_⟩⟩;exact znm (m:=m) e ts l hf.2 (Nat.lt_of_succ_lt_succ hm) (fun i H x e ex=>⟨xs,x,SqL.of e,ex⟩) (fun i H x H' e y=>⟨y.1,y.2 xs (SqL.of e)⟩) (fun i H e hi=>⟨xs,SqL.of e,hi⟩) fun H' q ys S1 c r=>fin (.ref q) _ (S1.trans (sn c)) (.lst (S1.free c) zan l (r.up (fun _ h=>h) (fun _ h=>h) (sn c)))
noncomputable def zyu(sc:Scope):Bool:=decide (sc.names.lookup ("_law_thing":Str)=some .cell)&&((["isinstance","list","tuple","dict"]:List Str).all fun x=>decide (sc.names.lookup x=some .globalImplicit))
def zwt{P:Program}{wo:PySem.World}{K:PySem.W.Frag}{mg:Z6}{base:Heap}{k:Nat}{x qual:Str}{st:Stmt}{f:Addr}{fd:FuncData}{N:List Str}{ah:List Stmt}{J I:Scope}{q1 q2 q3 q4 q5 q6 q7 q8 q9 ag ae ab r1 r2 r3 r4 r5 r6 r7 r8 r9 aa a9 a8 a7 U s1 s2 s3 s4 s5 t1 t2:Pos}
  (F:Fun K x qual st f fd) (S:FnScope N ["_law_thing"] (zae st)) (hs:zyu (zae st)=true) (bd:zbz K fd ["_law_thing"] []) (kp:PySem.W.keepIn K (.ref f)=true)
  (mi:mg "isinstance"=none) (ml:mg "list"=none) (mt:mg "tuple"=none) (md:mg "dict"=none) (ms:mg "_law_copied"=some (.ref f)) (h1:J.names=zr7) (h2:J.kind=.function) (h3:I.names=zr7) (h4:I.kind=.function)
  (hb:zaP st=[.If (.Call (.Name "isinstance" q1) [.Name "_law_thing" q2,.Name "list" q3] [] q4) [.Return (some (.ListComp (.Call (.Name "_law_copied" q5) [.Name "_law_one" q6] [] q7) [⟨.Name "_law_one" q8,.Name "_law_thing" q9,[],0⟩] J ag)) ae] [] ab,
   .If (.Call (.Name "isinstance" r1) [.Name "_law_thing" r2,.Name "tuple" r3] [] r4) [.Return (some (.Call (.Name "tuple" r5) [.ListComp (.Call (.Name "_law_copied" r6) [.Name "_law_one" r7] [] r8) [⟨.Name "_law_one" r9,.Name "_law_thing" aa,[],0⟩] I a9] [] a8)) a7] [] U,
   .If (.Call (.Name "isinstance" s1) [.Name "_law_thing" s2,.Name "dict" s3] [] s4) ah [] s5,.Return (some (.Name "_law_thing" t1)) t2]):
  ∀n,FnOk P wo K mg base (CXE P wo) (k+n) f fd ["_law_thing"] (zco n):=by
 intro n
 induction n with
 |zero=>exact⟨fun vs H Q E ⟨_,_,_,_,hd,_⟩=>absurd hd (ybT _),fun A outer s H args us vs Q E _ _ _ _ ⟨_,_,_,_,hd,_⟩=>absurd hd (ybT _)⟩|succ n i=>
  obtain⟨y,w,kV,doc,pm,an,o,ct,c,rfl,h,b⟩:=F.ex;rw[<-Nat.add_assoc];simp only[zyu,yab,yaR,ybq,List.all_nil,Bool.and_true]at hs;obtain⟨a1,u,r,q,p⟩:=hs
  have g:N[0]?=some ("_law_thing":Str):=by
   have:=congrArg (fun l:List Str=>l[0]?) S.pre;rwa[ycH]at this
  refine zm9 h b S (fun vs H Q E ⟨v,_,_,e,_⟩=>by rw[e];rfl) fun A outer s H vs Q E j a=>⟨tCp (n+1),?_,?_⟩
  ·rw[hb];exact zrN (k:=k+n) (f:=f) g (.inr (.inl a1)) u mi r ml q mt p md ms kp bd i j rfl h1 h2 h3 h4
  ·obtain⟨v,d,m,rfl,hm,t,hf,fin⟩:=a;exact⟨v,d,m,rfl,hm,t,hf,fin⟩
mutual
noncomputable def D.dep:D->Nat
 |.tup l=>D.deps l+1|.lst l=>D.deps l+1|_=>0
noncomputable def D.deps:List D->Nat
 |[]=>0|d::l=>max (D.dep d) (D.deps l)
end
mutual
noncomputable def D.cst:D->Nat
 |.tup l=>D.csts l|.lst l=>D.csts l+1|_=>0
noncomputable def D.csts:List D->Nat
 |[]=>0|d::l=>D.cst d+D.csts l
end
section
variable{cl:Cf}{T L:Addr->Prop}
def zpq{w:Wd}{b:Bool}(I:∀a xs,w.H a=some (.tup xs)->w.ow a=none->T a)(J:∀a xs,w.H a=some (.lst xs)->w.ow a=none->L a){n:Nat}{v:V}{d:D}(h:Shd cl w v d):d.okt b n=true->Tr T L w.H v d:=by
 refine Shd.rec (motive_1:=fun v d _=>∀{n:Nat},d.okt b n=true->Tr T L w.H v d) (motive_2:=fun vs ds _=>∀{n:Nat},D.okts b n ds=true->Trs T L w.H vs ds) (fun _=>.non) (fun b _ _=>.bl b) (fun i _ _=>.int i) (fun x _ _=>.str x) (fun e k _ c n h=>?_) (fun e k _ c n h=>?_) (fun _ _ _ _ h=>by simp[D.okt]at h) (fun _ _ h=>by simp[D.okt]at h) (fun _ _ _ h=>by simp[D.okt]at h) (fun _ _ h=>by simp[D.okt]at h) (fun _ _ _ _ h=>by simp[D.okt]at h) (fun _=>.nil) (fun _ _ a b n h=>?_) h
 ·cases n with
  |zero=>simp[D.okt]at h|succ n=>
   simp only[D.okt,yab,yaR]at h;exact .tup (I _ _ e k) e (yak h.1 (by decide)) (c h.2)
 ·cases n with
  |zero=>simp[D.okt]at h|succ n=>
   simp only[D.okt,yab,yaR]at h;exact .lst (J _ _ e k) e (yak h.2.1 (by decide)) (c h.2.2)
 ·simp only[D.okts,yab]at h;exact .cons (a h.1) (b h.2)
def zpi{w:Wd}{H:Hp}(f:∀a o,H a=some o->T a\/L a->w.H a=some o/\w.ow a=none){v:V}{d:D}(h:Tr T L H v d):Shd cl w v d:=
 Tr.rec (motive_1:=fun v d _=>Shd cl w v d) (motive_2:=fun vs ds _=>Shds cl w vs ds) .non .bl .int .str (fun n e _ _ t=>.tup (f _ _ e (.inl n)).1 (f _ _ e (.inl n)).2 t) (fun n e _ _ t=>.lst (f _ _ e (.inr n)).1 (f _ _ e (.inr n)).2 t) .nil (fun _ _ a b=>.cons a b) h
def zqa{H:Hp}{v:V}{d e:D}(h:Tr T L H v d):Tr T L H v e->d=e:=
 Tr.rec (motive_1:=fun v d _=>∀{e:D},Tr T L H v e->d=e) (motive_2:=fun vs ds _=>∀{es:List D},Trs T L H vs es->ds=es) (fun h=>by cases h;rfl) (fun _ _ h=>by cases h;rfl) (fun _ _ h=>by cases h;rfl) (fun _ _ h=>by cases h;rfl) (fun _ a _ _ c _ h=>by
  cases h with
  |tup _ b _ u=>rw[a]at b;cases b;rw[c u]|lst _ b _ u=>rw[a]at b;cases b) (fun _ a _ _ c _ h=>by
  cases h with
  |tup _ b _ u=>rw[a]at b;cases b|lst _ b _ u=>rw[a]at b;cases b;rw[c u]) (fun h=>by cases h;rfl) (fun _ _ a b _ h=>by cases h with|cons q u=>rw[a q,b u]) h
open Classical in
noncomputable def rgn(T L:Addr->Prop)(H:Hp):Rgn:=fun a=>if h:∃d,Tr T L H (.ref a) d then some (h.choose.dep,h.choose.cst)else none
def zta{H:Hp}{a:Addr}{d:D}(t:Tr T L H (.ref a) d):rgn T L H a=some (d.dep,d.cst):=by
 have h:∃d,Tr T L H (.ref a) d:=⟨d,t⟩;unfold rgn;rw[dif_pos h,zqa h.choose_spec t]
def zl7{H:Hp}{a:Addr}{p:Nat×Nat}(h:rgn T L H a=some p):∃d,Tr T L H (.ref a) d/\p=(d.dep,d.cst):=by
 unfold rgn at h;split at h
 ·rename_i z;exact⟨_,z.choose_spec,(Option.some.inj h).symm⟩
 ·cases h
theorem zjG{H:Hp}:∀{vs:List V}{ds:List D},Trs T L H vs ds->(∀x∈vs,okV (rgn T L H) (D.deps ds+1) x)/\(vs.map (cV (rgn T L H))).sum=D.csts ds
 |_,_,.nil=>⟨(fun x c=>by cases c),rfl⟩
 |v::vs,d::ds,.cons r t=>by
  obtain⟨h1,h2⟩:=zjG t
  have f:(∀a,v=.ref a->rgn T L H a=some (d.dep,d.cst)):=fun a e=>by subst e;exact zta r
  refine⟨fun x c=>?_,?_⟩
  ·rcases yan.mp c with rfl|c
   ·cases r with
    |non=>exact .inl True.intro|bl b=>exact .inl True.intro|int i=>exact .inl True.intro|str x=>exact .inl True.intro|tup _ _ _ _=>exact .inr ⟨_,_,_,rfl,f _ rfl,Nat.lt_succ_of_le (Nat.le_max_left _ _)⟩|lst _ _ _ _=>exact .inr ⟨_,_,_,rfl,f _ rfl,Nat.lt_succ_of_le (Nat.le_max_left _ _)⟩
   ·rcases h1 x c with z|⟨a,m,k,j,h,g⟩
    ·exact .inl z
    ·exact .inr ⟨a,m,k,j,h,yaj g (yb4 (Nat.le_max_right _ _))⟩
  ·rw[yav,yc2,h2];show _=D.cst d+D.csts ds;congr 1
   cases r with
   |non=>rfl|bl b=>rfl|int i=>rfl|str x=>rfl|tup _ _ _ _=>show(rgn T L H _).elim 0 (·.2)=_;rw[f _ rfl];rfl|lst _ _ _ _=>show(rgn T L H _).elim 0 (·.2)=_;rw[f _ rfl];rfl
def zqH{H H':Hp}{B:Nat}(s:zgC H H')(I:B<=1000000):Reg (rgn T L H) H' B:=⟨fun a m k e=>by
 obtain⟨d,t,z⟩:=zl7 e;cases z
 cases t with
 |tup n b l ts=>
  obtain⟨h1,h2⟩:=zjG ts;exact⟨_,h1,.inr ⟨s _ _ b,ybI h2⟩⟩
 |lst n b l ts=>
  obtain⟨h1,h2⟩:=zjG ts;refine⟨_,h1,.inl ⟨s _ _ b,ybI (by rw[h2];rfl),?_⟩⟩;rw[ts.length]
  exact ycC (Nat.add_le_add l I) (by decide)⟩
end
noncomputable def Out.val{α:Type}:Out α->Option α|.ok d _=>some d|_=>none
def zi3(r:List D->Sto->Out D)(a b c:Nat)(ρ:Env):Option D:=(zjZ a ρ []).bind fun d1=>(zjZ b ρ []).bind fun d2=>(zjZ c ρ []).bind fun d3=>if(d1.okt false 9&&d2.okt false 9&&d3.okt false 9)=true then(r [d1,d2,d3] []).val.bind fun d=>if(d.okt true 9&&decide (d.cst<=1000000))=true then some d else none else none
def zje{i:Nat}{ρ:Env}{S:Sto}{d:D}(h:zjZ i ρ S=some d):ρ[i]?=some (~~~d):=by
 unfold zjZ at h;split at h
 ·rename_i e;cases h;exact e
 ·cases h
def znK{r:List D->Sto->Out D}{a b c:Nat}{ρ:Env}{d:D}(h:zi3 r a b c ρ=some d):∃d1 d2 d3 S',ρ[a]?=some (~~~d1)/\ρ[b]?=some (~~~d2)/\ρ[c]?=some (~~~d3)/\(d1.okt false 9=true/\d2.okt false 9=true/\d3.okt false 9=true)/\r [d1,d2,d3] []=.ok d S'/\d.okt true 9=true/\d.cst<=1000000:=by
 unfold zi3 at h;simp only[yb0]at h;obtain⟨d1,h1,d2,h2,d3,f,h⟩:=h;split at h
 ·rename_i z;simp only[yab]at z;rw[yb0]at h;obtain⟨d0,h4,h⟩:=h;split at h
  ·rename_i y;cases h;rw[yab,yaR]at y
   cases e:r [d1,d2,d3] []with
   |ok d' S'=>rw[e]at h4;cases h4;exact⟨d1,d2,d3,S',zje h1,zje h2,zje f,⟨z.1.1,z.1.2,z.2⟩,e,y.1,y.2⟩|exc _ _=>rw[e]at h4;cases h4|bad=>rw[e]at h4;cases h4
  ·cases h
 ·cases h
def zhl(i j:Nat)(r:List D->Sto->Out D)(a b c:Nat):Fs:=fun ρ S=>if i<ρ.length/\j<ρ.length then(match S,zi3 r a b c ρ with|[],some d=>.nx ((ρ.set i none).set j (~~~d)) []|_,_=>.bad)else .bad
mutual
theorem znj{b:Bool}:∀(d:D) {n:Nat},d.okt b n=true->d.dep<=n
 |.tup l,0,h=>by simp[D.okt]at h
 |.tup l,n+1,h=>by
  simp only[D.okt,yab]at h;exact yb4 (zhO l h.2)
 |.lst l,0,h=>by simp[D.okt]at h
 |.lst l,n+1,h=>by
  simp only[D.okt,yab]at h;exact yb4 (zhO l h.2.2)
 |.non,_,_=>yaF _|.bl _,_,_=>yaF _|.int _,_,_=>yaF _|.str _,_,_=>yaF _|.dic _,_,_=>yaF _|.ref _,_,_=>yaF _|.exc _,_,_=>yaF _|.scr _,_,_=>yaF _
theorem zhO{b:Bool}:∀(l:List D) {n:Nat},D.okts b n l=true->D.deps l<=n
 |[],_,_=>yaF _|d::l,n,h=>by
  simp only[D.okts,yab]at h;exact Nat.max_le.mpr ⟨znj d h.1,zhO l h.2⟩
end
section
variable{cl:Cf}{B:Base}{σ:St}{w:Wd}{ρ:Env}
open Classical in
noncomputable def ow1(w:Wd):Ow:=fun a=>if(∃xs,w.H a=some (.lst xs))\/w.ow a≠none then some .far else none
def zq7{x:Addr}{o:Root}(h:ow1 w x=some o):o=.far:=by
 unfold ow1 at h;split at h
 ·cases h;rfl
 ·cases h
def zq6{x:Addr}{xs:List V}(h:w.H x=some (.lst xs)):ow1 w x=some .far:=by
 unfold ow1;exact if_pos (.inl ⟨xs,h⟩)
def zq5{x:Addr}{xs:List V}(h:w.H x=some (.tup xs))(k:w.ow x=none):ow1 w x=none:=by
 unfold ow1;refine if_neg fun z=>?_
 rcases z with⟨ys,z⟩|z
 ·rw[h]at z;cases z
 ·exact z k
def zi5{n:Nat}{v:V}{d:D}(h:Shd cl w v d):d.okt false n=true->Shd cl ⟨w.H,ow1 w,[]⟩ v d:=by
 refine Shd.rec (motive_1:=fun v d _=>∀{n:Nat},d.okt false n=true->Shd cl ⟨w.H,ow1 w,[]⟩ v d) (motive_2:=fun vs ds _=>∀{n:Nat},D.okts false n ds=true->Shds cl ⟨w.H,ow1 w,[]⟩ vs ds) (fun _=>.non) (fun b _ _=>.bl b) (fun i _ _=>.int i) (fun x _ _=>.str x) (fun e k _ c n h=>?_) (fun e k _ c n h=>by cases n<;>simp[D.okt]at h) (fun _ _ _ _ h=>by simp[D.okt]at h) (fun _ _ h=>by simp[D.okt]at h) (fun _ _ _ h=>by simp[D.okt]at h) (fun _ _ h=>by simp[D.okt]at h) (fun _ _ _ _ h=>by simp[D.okt]at h) (fun _=>.nil) (fun _ _ a b n h=>?_) h
 ·cases n with
  |zero=>simp[D.okt]at h|succ n=>
   simp only[D.okt,yab,yaR]at h;exact .tup e (zq5 e k) (c h.2)
 ·simp only[D.okts,yab]at h;exact .cons (a h.1) (b h.2)
open Classical in
noncomputable def ow3(w:Wd)(H1:Hp):Ow:=fun x=>if w.H x≠none then w.ow x else if H1 x=none then none else some .far
def zhy{H1:Hp}{x:Addr}{o:HO}(h:w.H x=some o):ow3 w H1 x=w.ow x:=by
 unfold ow3;exact if_pos (by rw[h];exact yaE _)
def zq3{H1:Hp}{x:Addr}(h:w.H x=none)(k:H1 x=none):ow3 w H1 x=none:=by
 unfold ow3;rw[if_neg (fun z=>z h),if_pos k]
def zq4{H1:Hp}{x:Addr}{o:Root}(h:w.H x=none)(k:ow3 w H1 x=some o):o=.far:=by
 unfold ow3 at k;rw[if_neg (fun z=>z h)]at k;split at k
 ·cases k
 ·cases k;rfl
def zlz{r:List D->Sto->Out D}{a b c i j:Nat}{d:D}{E:St->XK}{E1 E2:XK}{De:Ends}(R:Rel cl B σ w ρ [])(e:zi3 r a b c ρ=some d)(hi:i<σ.length)(U:j<σ.length)(J:i≠j)
  (fin:∀I w',Rel cl B I w' ((ρ.set i none).set j (~~~d)) []->Fut w w'->De.nx I w'.H):
  zvq (zpn (zgQ (zgA cl 3 false r) [] E (ze8 (zhX a) (ze8 (zhX b) (ze8 (zhX c) zll)))) (zgn i)) (zvq (zpn (zkI (zco 20) [] E1 (ze8 (zhX i) zll)) (zgn j)) (zlH (zkI (ze9 20) [] E2 (ze8 (zhX i) zll)))) De σ w.H:=by
 obtain⟨d1,d2,d3,S',A,e2,e3,⟨W,V,T⟩,Z,p,S⟩:=znK e;obtain⟨v1,g1,s1⟩:=R.slots _ _ _ A;obtain⟨v2,g2,s2⟩:=R.slots _ _ _ e2;obtain⟨O,g3,Q⟩:=R.slots _ _ _ e3;refine⟨v1,g1,v2,g2,O,g3,rfl,⟨w.H,ow1 w⟩,⟨w.H,ow1 w,[]⟩,[d1,d2,d3],[],rfl,⟨fun x o h=>⟨h,rfl⟩,fun x o h=>.inl (zq7 h),rfl,fun n ob h=>by simp at h⟩,.cons (zi5 s1 W) (.cons (zi5 s2 V) (.cons (zi5 Q T) .nil)),?_⟩;rw[Z];intro v f L F1 P;have S1:zgC w.H f.H:=fun x o h=>(L.fr x o h).1
 have fresh:∀x xs,f.H x=some (.lst xs)->f.ow x=none->w.H x=none:=fun x xs h k=>by
  cases g:w.H x with
  |none=>rfl|some o=>
   have:=L.fr x o g;rw[h]at this;have z:o=.lst xs:=(Option.some.inj this.1).symm;subst z;have y:ow1 w x=none:=this.2.symm.trans k;rw[zq6 g]at y;cases y
 have M:Tr (fun _=>True) (fun x=>w.H x=none) f.H v d:=zpq (fun _ _ _ _=>True.intro) fresh P p;refine⟨v,yam hi,v,d,9,rfl,by decide,M.up (fun _ h=>h) (fun _ _=>True.intro) (zgC.refl _),p,fun G H2 S2 T2=>?_⟩
 have ex:((σ.set i (some v)).set j (some G))[i]?=some (some v):=by rw[yax (fun z=>J z.symm)];exact yam hi
 obtain⟨k1,k2⟩:=zjG (.cons M .nil);have k2:cV (rgn (fun _=>True) (fun x=>w.H x=none) f.H) v+0=d.cst+0:=k2;have hd:=znj d p;refine⟨v,ex,v,rgn (fun _=>True) (fun x=>w.H x=none) f.H,d.cst,_,rfl,?_,zqH S2 S,k1 v (.head _),by omega,fun l R3 N=>?_⟩
 ·show max d.dep 0+1<20;omega
 have keep:∀x o,w.H x=some o->l x=some o:=fun x o h=>by
  rcases N x o (S2 x o (S1 x o h))with z|⟨_,_,xs,ys,m,_,C,_⟩
  ·exact z
  ·subst C;obtain⟨d',t,_⟩:=zl7 m;have g:=S1 x _ h
   cases t with
   |tup _ e _ _=>rw[g]at e;cases e|lst n e _ _=>rw[h]at n;cases n
 have new:∀x o,H2 x=some o->f.H x=none->l x=some o:=fun x o h k=>by
  rcases N x o h with z|⟨_,_,xs,ys,m,_,C,_⟩
  ·exact z
  ·obtain⟨d',t,_⟩:=zl7 m
   cases t with
   |tup _ e _ _=>rw[k]at e;cases e|lst _ e _ _=>rw[k]at e;cases e
 have F:Fut w ⟨l,ow3 w f.H,w.mu⟩:=⟨fun x o h k=>⟨keep x o h,(zhy h).trans k⟩,fun _ _ h=>h⟩;refine fin _ ⟨l,ow3 w f.H,w.mu⟩ ⟨⟨fun x o h=>?_,fun x o h=>?_,R.wd.len,fun n ob h=>by simp at h⟩,by rw[yau,yau,yau,yau];exact R.len,fun n o e h=>?_⟩ F
 ·have:=R.wd.fr x o h;exact⟨keep x o this.1,(zhy this.1).trans this.2⟩
 ·cases g:w.H x with
  |none=>exact .inl (zq4 g h)|some u=>exact R.wd.own x o ((zhy g).symm.trans h)
 ·by_cases q:n=j
  ·subst q
   have Y:n<(ρ.set i none).length:=by rw[yau,<-R.len];exact U
   rw[yam Y]at h;cases h;exact⟨G,yam (by rw[yau];exact U),zpi (fun x o g z=>⟨new x o g (z.elim id id),zq3 (S1.free (z.elim id id)) (z.elim id id)⟩) T2⟩
  ·rw[yax (fun z=>q z.symm)]at h
   by_cases s:n=i
   ·subst s;rw[yam (by rw[<-R.len];exact hi)]at h;cases h
   ·rw[yax (fun z=>s z.symm)]at h;obtain⟨u,A,x⟩:=R.slots n o e h;exact⟨u,by rw[yax (fun z=>q z.symm),yax (fun z=>s z.symm)];exact A,x.keep F fun y o K X=>⟨keep y o K,(zhy K).trans X⟩⟩
end
structure SlotN(X:Cx)(i:Nat)(x:Str):Prop where
 n:X.N[i]?=some x
 v:Vis X.env.scope x
 d:(x==("__debug__":Str))=false
 c:(x==("__classdict__":Str))=false
def SlotN.pe{X:Cx}{i:Nat}{x:Str}(h:SlotN X i x){pos:Pos}:PE X (.Name x pos) (zhX i):=za0 h.n h.v h.d h.c
structure FnAt(X:Cx)(k:Nat)(x:Str)(ps:List Str)(sp:Sp):Prop where
 ex:∃f fd,X.mg x=some (.ref f)/\PySem.W.keepIn X.K (.ref f)=true/\zbz X.K fd ps []/\FnOk X.prog X.w X.K X.mg X.base (CXE X.prog X.w) k f fd ps sp
 g:Gl X x
 d:(x==("__debug__":Str))=false
def zpA{X:Cx}{P:Program}{w:PySem.World}:zi1 (CXE P w) X E0:=fun pins σ H s e s' I q=>by
 obtain⟨a,cls,a0,H',B,_,_,_,_,_,_,_,_,_,z⟩:=q;exact z.elim
noncomputable def znC(X:Cx)(E:St->XK):Prop:=∀(C:Addr) (pins:Z3) (σ:St) (H:Hp) (s:Shared) (e:Addr) (h':Heap) (vs:List Value),Inv X pins σ H s->Heap.MadeExcOf s.heap h' e (.ref C) vs->E σ (.ref C) none H->X.xe (.ref e) {s with heap:=h'}
noncomputable def zqh(C:Addr)(E:St->XK)(t:TA):TS:=fun _ σ H=>t σ H fun vs H1=>vs.length<=sizeLine/\E σ (.ref C) none H1
theorem zmg(U:znC X E)(hc:X.calm=true)(hg:Gl X x)(hm:X.mg x=some (.ref C))
  (z:PySem.W.excIn X.K C bmV "ValueError.__new__"=true) (ha:PA X (e::es) t)
  (he:starEach (e::es) X.env=(false,eval e X.env)::starEach es X.env) (ah:(backTo cpos (starEach es X.env)).any (·.1)=false) (J:(x==("__debug__":Str))=false):
  PS X (.Raise (some (.Call (.Name x np) (e::es) [] cpos)) none pos) (zqh C E t):=by
 intro pins s σ H D I h;obtain⟨bm,N,nm,f,bs,hd,sn,sub,ab,col,dd,p,c1,o,n,m,mN,l,k,j,c⟩:=zjr I.mod.kin z
 refine wpAny_Raise_call_subU (C:=C) (nm:=nm) (q:=f) (N:=N) (bs:=bs) (bm:=bm) (hdct:=hd) (sn:=sn) (sub:=sub) (ab:=ab) (col:=col) (dd:=dd) (k0:=p) (k1:=c1) (k2:=o) (k3:=n) (k5:=m)
  ych (by decide +kernel) ych (mN:=mN) (c.hasType ych.hasBase) (I.ok.hd hc) (by rw[he];show(false||(backTo cpos (starEach es X.env)).any (·.1))=false;rw[ah];rfl) j (zeo I hg hm ⟨rfl,?_⟩ J)
 have go:=ha cpos pins s σ H _ I h;rw[he]at go ⊢;exact Calls.evalArgs_plain (thn go fun us s2 ⟨vs,H2,b,d,i,g⟩=>⟨rfl,by rw[<-d.length];exact i,b.bk _ _ l,k.keeps b.bk,c.keeps b.bk,fun h' a mk=>U C pins σ H2 s2 a h' us b mk g⟩)
def sRz(c:Str)(fs:List Fe):Fs:=fun ρ S=>match zap fs ρ S with|.ok ds S'=>if zbh ds.length then .ex c ρ S' else .bad|.exc x S'=>.ex x ρ S'|.bad=>.bad
noncomputable def zph(X:Cx)(pins:Z3)(E:St->XK):Cx:={X with pn:=X.pn++pins,xe:=fun e s'=>∃σ H1 s1,Inv X pins σ H1 s1/\CXE X.prog X.w X.stack H1 s1 (E σ) e s'}
section
variable{X:Cx}{pins:Z3}{σ:St}{H:Hp}{s:Shared}{E:St->XK}
def ztO(ok:X.Ok):(zph X pins E).Ok:=
 ⟨ok.mod,ok.kind,ok.glob,ok.blt,ok.above,ok.inj,ok.has,ok.cab,ok.hd,ok.frames,ok.stk,ok.exf,ok.bs,ok.bsz,ok.noex,ok.exfs,ok.funs,ok.frf⟩
def zoz(ok:(zph X pins E).Ok):X.Ok:=
 ⟨ok.mod,ok.kind,ok.glob,ok.blt,ok.above,ok.inj,ok.has,ok.cab,ok.hd,ok.frames,ok.stk,ok.exf,ok.bs,ok.bsz,ok.noex,ok.exfs,ok.funs,ok.frf⟩
def zrw(I:Inv X pins σ H s):Inv (zph X pins E) [] σ H s:=
 ⟨ztO I.ok,I.os,I.bare,I.base,I.loc,I.cell,I.free,I.freeC,fun p a=>I.pin p (by simpa[zph]using a),I.hok,I.len⟩
def zdS(I:Inv (zph X pins E) J σ H s):Inv X pins σ H s:=
 ⟨zoz I.ok,I.os,I.bare,I.base,I.loc,I.cell,I.free,I.freeC,fun p a=>I.pin p (ybO _ a),I.hok,I.len⟩
def znR(h:SP (zph X pins E) [] De f s):SP X pins De f s:=by
 cases f with
 |next=>obtain⟨a,H',I,q⟩:=h;exact⟨a,H',zdS I,q⟩|brk=>obtain⟨a,H',I,q⟩:=h;exact⟨a,H',zdS I,q⟩|cont=>obtain⟨a,H',I,q⟩:=h;exact⟨a,H',zdS I,q⟩|ret u=>obtain⟨v,a,H',I,r,q⟩:=h;exact⟨v,a,H',zdS I,r,q⟩
end
noncomputable def zvo(K:PySem.W.Frag)(C:Addr)(i:Nat)(th:TS)(De:Ends):St->XK:=fun σ cls _ H'=>∃b,cls=.ref b/\zpd K b C/\∀a ob,H' a=none->ob.cls=.ref b->th (De.goes i) (σ.set i (some (.ref a))) (upd H' a (.frz ob (.own a)))
def zqO{X:Cx}{body:List Stmt}{b0:Stmt}{J:List Stmt}{c n:Str}{C:Addr}{i:Nat}{bD:List Value}{iD:String}{tb:(St->XK)->TS}{th:TS}{np U pos:Pos}(hs:X.stack=X.env::X.outer)(hf:X.env.frame=some X.env.locals)(hN:X.N.Nodup)(hi:X.N[i]?=some n)
  (hk:X.env.scope.names.lookup n=some .local) (hg:Gl X c) (hm:X.mg c=some (.ref C)) (z:PySem.W.excIn X.K C bD iD=true) (hb:bD.contains (.type "BaseException")=true) (h1:∀pins E,PSs (zph X pins E) body (tb E)) (h2:∀a,PSs (X.inH a) (b0::J) th) (a3:(c==("__debug__":Str))=false):
  PS X (.Try body [.ExceptHandler (some (.Name c np)) (some n) (b0::J) U] [] [] pos) (fun De σ H=>tb (zvo X.K C i th De) De σ H):=by
 intro pins s σ H D I h
 have l:X.A.frames=some (X.env::X.outer):=by rw[<-hs];exact I.ok.frames
 refine wpAny_Try_except (ybl (h1 pins (zvo X.K C i th D) [] s σ H D (zrw I) h) (fun f s1 q=>?_) fun e s1 q=>?_)
 ·have g:=znR q
  cases f with
  |next=>exact ycw g|ret v=>exact g|brk=>exact g|cont=>exact g
 ·obtain⟨y,H1,s2,x,a,cls,a0,H',B,rfl,R,c1,u,t,os,bare,un,hok,C',rfl,⟨⟨bC,Z,F⟩,up⟩,q⟩:=q;have d:=R;rw[hs]at d;refine wpAny_looks_onW l hf d fun h4 m r=>?_
  refine wpAny_landsW m fun h5 b p=>?_
  rw[<-hs]at b;obtain⟨w,P,k,j,_,_⟩:=zg9 (s':=s1) x b (r.trans p) c1 u t os bare un hok;refine wpAny_handleBy_cons (codeAny_handlers_test ?_) (by intro q;cases q);refine zeo (w.inH a) hg hm ?_ a3;refine zhC w.kIn F z j k hb up ?_;refine codeAny_handlers_suite_as ?_;refine lands_againW b fun h6 o G=>?_
  obtain⟨_,ob,O,Y,Q,T⟩:=zg9 (s':=s1) x o ((r.trans p).trans G) c1 u t os bare un hok;refine zdb (v:=.ref a) T hN hi (.inl hk) rfl (fun L S=>?_) (.inr hk);exact ybl (h2 a pins L _ _ (D.goes i) (S.inH a) (q a ob Q O)) (fun f V M=>zqr I.ok hN hi hk M) fun _ _ z=>z.elim
def Rel.clear(R:Rel cl B σ w ρ S)(i:Nat):Rel cl B (σ.set i none) w (ρ.set i none) S where
 wd:=R.wd
 len:=by rw[yau,yau];exact R.len
 slots:=fun j o e a=>by
  by_cases b:i=j
  ·subst b
   have c:i<ρ.length:=by
    have:=(yal.mp a).1;rwa[yau]at this
   rw[yam c]at a;cases a
  ·rw[yax b]at a ⊢;exact R.slots j o e a
noncomputable def zr4(ds:List D)(S:Sto):Out D:=match ds with|[d]=>if d.okt true 9=true then .ok d S else .bad|_=>.bad
open Classical in
noncomputable def owN(w:Wd):Ow:=fun a=>if w.H a=none then none else w.ow a
def zmw{w:Wd}{a:Addr}(h:w.H a=none):owN w a=none:=if_pos h
def zq2{w:Wd}{a:Addr}{o:HO}(h:w.H a=some o):owN w a=w.ow a:=if_neg (by rw[h];exact yaE _)
def zm6{w:Wd}{H':Hp}(s:zgC w.H H'):Grow w ⟨H',owN w,w.mu⟩where
 keep:=fun a o h=>⟨s a o h,zq2 h⟩
 new:=fun a r h k=>by
  have:owN w a=some r:=h;rw[zmw k]at this;cases this
 mu:=rfl
def zuB{P:Program}{wo:PySem.World}{K:PySem.W.Frag}{mg:Z6}{base:Heap}{CX:CXT}{k:Nat}{f:Addr}{fd:FuncData}{ps:List Str}{cl:Cf}(F:FnOk P wo K mg base CX k f fd ps (zco 20)):FnOk P wo K mg base CX k f fd ps (zgA cl 1 false zr4):=F.imp fun vs H Q E h=>by
 obtain⟨b,B,w,ds,S,rfl,W,r,q⟩:=h
 cases r with
 |nil=>cases b| @cons v d vs ds r t=>
  cases t with
  |cons _ _=>cases b|nil=>
   unfold zr4 at q;dsimp only at q
   by_cases ok:d.okt true 9=true
   ·rw[if_pos ok]at q;refine⟨v,d,9,rfl,by decide,zpq (fun _ _ _ _=>True.intro) (fun _ _ _ _=>True.intro) r ok,ok,fun c H' s t=>?_⟩;have g:=zm6 s;exact q c ⟨H',owN w,w.mu⟩ (W.grow g) g.fut (zpi (fun a o h z=>⟨h,zmw (z.elim id id)⟩) t)
   ·rw[if_neg ok]at q;exact q.elim
section
variable{X:Cx}{cl:Cf}{E:St->XK}{own:Bool}{f:Fe}{e:Expr}{k:Nat}
def zie(f:Fe):Fs:=fun ρ S=>match f ρ S with
 |.ok (.lst l) S'=>if zbh l.length then .nx ρ S' else .bad
 |.exc c S'=>.ex c ρ S'|_=>.bad
def znP{ap cp pos p:Pos}{j:Nat}(he:PE X e (tN cl E f))(I:(ap.endLine==cp.line)=true)(ae:attributeBase e "append" X.env (eval e X.env)=eval e X.env):PS X (.Expr (.Call (.Attribute e "append" ap) [.Constant .none j p] [] cp) pos) (tS cl E own (zie f)):=by
 refine PS.imp (zcU (zkT (es:=[]) yaY ybs ybt zdR he (zam (zmq (j:=j) (pos:=p)) zaQ) (ae:=ae) (aa:=I))) ?_;rintro De σ H ⟨B,w,ρ,S,rfl,R,q⟩;refine⟨B,w,ρ,S,rfl,R,?_⟩;unfold zie at q
 cases hf:f ρ S with
 |bad=>rwa[hf]at q|exc c S1=>rw[hf]at q;exact fun b a F1=>q σ b a F1|ok d S1=>
  rw[hf]at q;intro p1 o b a F1 g t
  cases t with
  |lst r=>
   dsimp only at q;split at q
   ·rename_i h;refine⟨.inl ⟨rfl,_,SqL.of zan⟩,p1,_,.non,rfl,rfl,zan,by rw[r.length];exact zfF h,?_⟩;rw[zp9];exact q σ _ (a.grow (zaC g _)) (F1.trans (zaC g _).fut)
   ·exact q.elim
  |_=>exact q.elim
end
def zlV(und:Str->Str->Bool)(C:Str)(i j:Nat)(fb:Fs):Fs:=fun ρ S=>match fb ρ S with
 |.ex c a S'=>(match zmL a j with
  |some l=>if(und c C&&decide (i<a.length)&&zbh l.length)=true then .nx ((a.set j (some (true,.lst (l++[.exc c])))).set i none) S' else .bad
  |none=>.bad)
 |o=>o
def zly{cl:Cf}{E:St->XK}{own:Bool}{K:PySem.W.Frag}{und:Str->Str->Bool}{C:Str}{i j:Nat}{fb:Fs}(I:i≠j)(J:∀c,und c C=true->zpd K (cl c) (cl C)){De:Ends}{σ:St}{H:Hp}(q:tS cl E own (zlV und C i j fb) De σ H):
  tS cl (zvo K (cl C) i (zlH (tBM K "list" zjd (zhX j) (ze8 (zhX i) zll))) De) own fb De σ H:=by
 obtain⟨B,w,ρ,S,rfl,R,q⟩:=q;refine⟨B,w,ρ,S,rfl,R,?_⟩;unfold zlV at q
 cases hf:fb ρ S with
 |nx b S'=>rwa[hf]at q|bk b S'=>rwa[hf]at q|ct b S'=>rwa[hf]at q|rt d S'=>rwa[hf]at q|bad=>rwa[hf]at q|ex c b S'=>
  rw[hf]at q;dsimp only at q
  cases k:zmL b j with
  |none=>rw[k]at q;exact q.elim|some l=>
   rw[k]at q;dsimp only at q;split at q
   ·rename_i f;simp only[yab,yaR]at f;obtain⟨⟨f,hi⟩,s⟩:=f;intro e w' r y;refine⟨cl c,rfl,J c f,fun a ob u h=>?_⟩;have g:=zaC (w:=w') u (.frz ob (.own a));have sh:Shd cl (w'.add a (.frz ob (.own a))) (.ref a) (.exc c):=.exc znA ziZ h
    have m:i<e.length:=by rw[r.len];exact hi
    have o:=r.grow g;obtain⟨p,xs,n,h1,h2,t⟩:=o.list (zoG k)
    have x:(e.set i (some (V.ref a)))[j]?=some (some (.ref p)):=by rw[yax I];exact n
    refine⟨.ref p,x,.inl ⟨rfl,xs,SqL.of h2⟩,.ref a,yam m,p,xs,.ref a,rfl,rfl,h2,by rw[t.length];exact zfF s,?_⟩;have v:Fut (w'.add a (.frz ob (.own a))) ((w'.add a (.frz ob (.own a))).mut p (.lst (xs++[.ref a]))):=zdj (by rw[h1];exact yaE _);have R2:=(o.mut (d0:=.non) n h1 (.lst (t.append (.cons sh .nil)))).clear i;refine q _ ((w'.add a (.frz ob (.own a))).mut p (.lst (xs++[.ref a]))) ?_ (y.trans (g.fut.trans v));show Rel cl B ((e.set i (some (V.ref a))).set i none) _ _ _;rw[ycv];exact R2
   ·exact q.elim
noncomputable def zmY:Expr->Bool|.ListComp _ _ _ _=>true|.SetComp _ _ _ _=>true|.DictComp _ _ _ _ _=>true|_=>false
def zhg(h:zmY e=false):swapsWith e t l env=pure false:=by
 cases e<;>first|rfl|cases h
structure Gd(cl:Cf)(G:Genv)(k:Nat)(X:Cx)(nm:Names)(N:List Str)(E:St->XK)(full:Bool):Prop where
 gx:Gx cl G k X nm N E
 kind:X.env.scope.kind=.function
 sc:X.env.scope.names=nm
 own:full=true->PassesOwn (model X.prog X.w) X.A X.env X.xe
 raises:full=true->znC X E
 stk:X.stack=X.env::X.outer
 frm:X.env.frame=some X.env.locals
def zdg:Nat->Names->List Str->Expr->List Nat
 |0,_,_,_=>[]|n+1,nm,N,e=>
  let rc:=zdg n nm N
  let op:=fun(e:Expr)=>match e with|.Name _ _=>[]|e=>rc e
  match e with
  |.Name x _=>(zjN nm N x).toList|.Tuple es _ _=>es.flatMap rc|.List es _=>es.flatMap rc|.BinOp a _ b _=>op a++op b|.UnaryOp _ a _=>rc a|.BoolOp _ es _=>es.flatMap rc|.Compare a _ bs _=>op a++bs.flatMap op|.IfExp c a b _=>rc c++rc a++rc b|.Subscript a (.Slice lo hi _ _) _=>op a++lo.toList.flatMap op++hi.toList.flatMap op|.Subscript a i _=>op a++op i|.Call (.Name f _) args [] _=>if(zuO f).isSome||decide (f="isinstance")then args.flatMap op else args.flatMap rc
  |.Call (.Attribute o _ _) args [] _=>op o++args.flatMap rc|.Dict _ _ _=>[]|.Attribute o _ _=>op o|.ListComp _ [g] scope _=>rc g.iter++(zbs scope.names N).map (·.2)|_=>[]
def zkP(t:Tg)(f:Fe):Fs:=fun ρ S=>match f ρ S with
 |.ok d S'=>(match t.put ρ d with|some a=>.nx a S'|none=>.bad)
 |.exc c S'=>.ex c ρ S'|.bad=>.bad
noncomputable def zov(nm:Names)(x y:Str)(px py:Pos)(a b:Expr):Bool:=
 decide (nm.lookup x=some .local)&&decide (nm.lookup y=some .local)&&decide (px.line=py.line)&&!decide (x=y)&&zcb a&&zcb b&&!([a,b].all (foldedForSure 8))&&!([a,b].all (constantsAlone 8))
def zqT(n:Nat)(own:Bool)(nm:Names)(N:List Str):Stmt->List Nat
 |.Assign [_] e _=>zdg n nm N e|.Expr (.Call (.Attribute _ _ _) args [] _) _=>args.flatMap (zdg n nm N)|.Expr e _=>zdg n nm N e|.Return (some (.Name x p)) _=>if own then[]else zdg n nm N (.Name x p)
 |.Return (some e) _=>zdg n nm N e|.If c _ _ _=>zdg n nm N c|.For _ it _ _ _=>zdg n nm N it|.While c _ _ _=>zdg n nm N c|_=>[]
structure Ds(G:Genv)(nm:Names)(N:List Str)(own full:Bool)(st:Stmt)where
 f:Fs
 ok:∀{cl k X E},Gd cl G k X nm N E full->PS X st (tS cl E own f)
structure Dss(G:Genv)(nm:Names)(N:List Str)(own full:Bool)(b:List Stmt)where
 f:Fs
 ok:∀{cl k X E},Gd cl G k X nm N E full->PSs X b (tS cl E own f)
noncomputable def zuq:Expr->Bool|.Tuple _ _ _=>true|_=>false
section
variable{cl:Cf}{G:Genv}{k:Nat}{X:Cx}{nm:Names}{N:List Str}{E:St->XK}{own full:Bool}
def zny(q:tS cl E own (zkP t f) De σ H):zpn (tE cl E f) (tG cl n t) De σ H:=by
 obtain⟨B,w,ρ,S,rfl,R,q⟩:=q;refine⟨B,w,ρ,S,rfl,R,?_⟩;unfold zkP at q
 cases hf:f ρ S with
 |bad=>rwa[hf]at q|exc c S1=>rw[hf]at q;exact fun w' g h=>q σ w' g h|ok d S1=>
  rw[hf]at q;intro v w' g h h';dsimp only at q
  cases e:t.put ρ d with
  |none=>rw[e]at q;exact q.elim|some b=>rw[e]at q;exact⟨B,w',ρ,S1,d,b,rfl,g,h',e,fun a _ _ R2=>q a w' R2 h⟩
def ztD(J:X.env.scope.kind=.function)(hs:X.env.scope.names=nm)(h:zov nm x y px py a b=true):
  swappedStores [.Tuple [.Name x px,.Name y py] kt pt] (.Tuple [a,b] k2 I) X.env=pure (some [x,y]):=by
 unfold zov at h;simp only[yab,yaR,yaV,yb1]at h;obtain⟨⟨⟨⟨⟨⟨⟨h1,h2⟩,l⟩,h4⟩,f⟩,d⟩,k⟩,j⟩:=h
 have i:X.env.blockKind=.function:=by unfold Env.blockKind;rw[J];rfl
 have k1:X.env.kindOf x=some .local:=by unfold Env.kindOf;rw[hs];exact h1
 have c:X.env.kindOf y=some .local:=by unfold Env.kindOf;rw[hs];exact h2
 have st:([a,b].any fun|.Starred ..=>true|_=>false)=false:=by
  rw[List.any_eq_false];intro e he
  have g:zcb e=true:=by
   rcases yan.mp he with z|z
   ·rw[z];exact f
   ·rw[yaI.mp z];exact d
  cases e<;>first|(cases g;done)|(intro z;cases z)
 have m:[x,y].eraseDups.length=2:=by
  have:(y==x)=false:=by rw[ya2];exact fun z=>h4 z.symm
  simp[List.eraseDups_cons,this]
 unfold swappedStores;simp only[i,st];simp[k1,c,l,k,j,m,show(Expr.Name x px).pos=px from rfl,show(Expr.Name y py).pos=py from rfl];intro z;exfalso
 rcases z with z|z
 ·cases a<;>first|(cases f;done)|cases z
 ·cases b<;>first|(cases d;done)|cases z
def zsv:swapsWithSole [.Subscript a i p] e l env=pure false:=by cases e<;>rfl
def zsz:swappedStores [.Subscript a i p] e env=pure none:=by cases e<;>rfl
def zsu:swapsWithSole [.Tuple es kk p] e l env=pure false:=by cases e<;>rfl
def zsy(h:zuq e=false):swappedStores [.Tuple es kk p] e env=pure none:=by cases e<;>first|rfl|cases h
def zpo:swapsWith e (some (.Attribute o f p)) l env=pure false:=by cases e<;>rfl
def zo3(g:Gd cl G k X nm N E full)(i:Ti G nm N N.length x)(c:Dc G nm N elt I scope):
  PS X (.Assign [.Name x px] (.ListComp elt [I] scope p) pos) (tS cl E own (zbd i.i true c.f)):=by
 obtain⟨a1,a2,j,h,d⟩:=i.ok g.gx;obtain⟨b,a⟩:∃b,swapsWith (.ListComp elt [I] scope p) (some (.Name x px)) pos.line X.env=pure b:=⟨_,rfl⟩
 cases b with
 |false=>exact zlK a2 j h (c.n g.gx) a d|true=>
  obtain⟨it,t,c',s,e,r,S,i1,i2,o,m,l⟩:=c.ok g.gx;rw[e];rw[r]at a ⊢;refine PS.imp (zoe g.gx.calm S a2 j h i1 o m l a d (zhz i2)) ?_;intro De σ H q;exact zpX (zuR q)
end
section
variable{G:Genv}(rc:Rec G){nm:Names}{N:List Str}{own full:Bool}
def zyw(nm:Names)(N:List Str)(x:Str)(px pos:Pos)(e:Expr):Option (Ds G nm N own full (.Assign [.Name x px] e pos)):=gd (!zmY e) fun c=>(tgI G nm N N.length x).bind fun i=>(rc nm N e).map fun a=>⟨zbd i.i a.o a.f,fun g=>by
   obtain⟨a1,a2,j,h,d⟩:=i.ok g.gx;have b:=a.ok g.gx
   cases k:a.o with
   |false=>exact zsL a2 j h b.2.1 (zhg ((yaV _).mp c)) d|true=>exact zlK a2 j h (b.1 k) (zhg ((yaV _).mp c)) d⟩
def zAj(nm:Names)(N:List Str)(x:Str)(px pos:Pos):∀e,Option (Ds G nm N own full (.Assign [.Name x px] e pos))
 |.ListComp elt [h] scope p=>(tgI G nm N N.length x).bind fun i=>(zuD rc nm N elt h scope).map fun c=>⟨zbd i.i true c.f,fun g=>zo3 g i c⟩|.Call (.Attribute (.Name y py) m ap) [] [] cp=>if hm:m="pop"then gd (ap.endLine==cp.line) fun d=>(tgI G nm N N.length x).bind fun i=>(slO G nm N y).map fun s=>⟨zr0 i.i s.i,fun g=>by
   subst hm;obtain⟨a1,a2,l,k,j⟩:=i.ok g.gx;obtain⟨s1,s2,b,a⟩:=s.ok g.gx
   exact zsE a2 l k j s1 s2 b a d⟩
  else zyw rc nm N x px pos (.Call (.Attribute (.Name y py) m ap) [] [] cp)
 |e=>zyw rc nm N x px pos e
def zwG(nm:Names)(N:List Str)(es:List Expr)(kt:Nat)(pt pos:Pos)(e:Expr)(sw:∀{cl k X E},Gd cl G k X nm N E full->swappedStores [.Tuple es kt pt] e X.env=pure none):Option (Ds G nm N own full (.Assign [.Tuple es kt pt] e pos)):=(tgG G nm N N.length (.Tuple es kt pt)).bind fun t=>(rc nm N e).map fun a=>⟨zkP t.t a.f,fun g=>PS.imp (zmi (a.ok g.gx).2.1 (t.ok g.gx) zsu (sw g) rfl) fun _ _ _ q=>zny q⟩
noncomputable def zso(h:(o=true->PE X e (tN cl E f))/\PE X e (tE cl E f)):PE X e (tO cl E o f):=by
 cases o with
 |false=>exact h.2|true=>exact h.1 rfl
def zzu(nm:Names)(N:List Str)(kt k2:Nat)(pt p2 pos:Pos):∀es vs,Option (Ds G nm N own full (.Assign [.Tuple es kt pt] (.Tuple vs k2 p2) pos))
 |[.Name x px,.Name y py],[a,b]=>gd (zov nm x y px py a b) fun d=>(tgI G nm N N.length x).bind fun i=>(tgI G nm N N.length y).bind fun j=>gd (!decide (i.i=j.i)) fun c=>(rc nm N a).bind fun fa=>(rc nm N b).map fun fb=>⟨zr1 i.i j.i fa.o fa.f fb.o fb.f,fun g=>by
   have c:=of_decide_eq_false ((yaV _).mp c);obtain⟨_,a2,k,_,_⟩:=i.ok g.gx;obtain⟨_,_,h,_,_⟩:=j.ok g.gx;have P:=fa.ok g.gx;have Q:=fb.ok g.gx
   have e:nm.lookup x=some .local/\nm.lookup y=some .local:=by
    unfold zov at d;simp only[yab,yaR]at d;exact⟨d.1.1.1.1.1.1.1,d.1.1.1.1.1.1.2⟩
   rw[<-g.sc]at e
   exact PS.imp (ztk g.gx.calm a2 k h c e.1 e.2 (zam (zso ⟨P.1,P.2.1⟩) (zam (zso ⟨Q.1,Q.2.1⟩) zaQ (zbI (zas fb.q))) (zbI (zas fa.q))) (ztD g.kind g.sc d) rfl) fun _ _ _ q=>zou q⟩
 |_,_=>none
noncomputable def zAi(nm:Names)(N:List Str)(es:List Expr)(kt:Nat)(pt pos:Pos):∀e,Option (Ds G nm N own full (.Assign [.Tuple es kt pt] e pos))
 |.Tuple vs k2 p2=>zzu rc nm N kt k2 pt p2 pos es vs|e=>gd (!zuq e) fun h=>zwG rc nm N es kt pt pos e fun _=>zsy ((yaV _).mp h)
def zAl(nm:Names)(N:List Str)(x f:Str)(p ap pos:Pos):∀e,Option (Ds G nm N own full (.Assign [.Attribute (.Name x p) f ap] e pos))
 |.List [] _=>gd (G.ob.fk G.ob.cur f&&zt8 f) fun hf=>(slO G nm N x).map fun s=>⟨zgF G.ob.cur f s.i,fun g=>by
   obtain⟨s1,s2,c,b⟩:=s.ok g.gx
   exact zqo s1 s2 c b g.gx.same (g.gx.gok.fk _ _ ((yab _ _).mp hf).1) rfl⟩
 |.Dict [] [] _=>gd (G.ob.df f&&G.ob.fk G.ob.cur f) fun hf=>(slO G nm N x).map fun s=>⟨zkO G.ob.cur f s.i,fun g=>by
   obtain⟨s1,s2,c,b⟩:=s.ok g.gx
   exact zqp s1 s2 c b g.gx.same (g.gx.gok.fk _ _ ((yab _ _).mp hf).2) zpo⟩
 |e=>gd (!G.ob.df f&&G.ob.fk G.ob.cur f) fun hf=>(rc nm N (.Name x p)).bind fun fo=>(rc nm N e).map fun a=>⟨zfb G.ob.cur f fo.f a.f,fun g=>zqn g.gx.same (g.gx.gok.fk _ _ ((yab _ _).mp hf).2) (fo.ok g.gx).2.1 (a.ok g.gx).2.1 zpo⟩
noncomputable def zzs(nm:Names)(N:List Str)(p3 pos:Pos):∀b I e,Option (Ds G nm N own full (.Assign [.Subscript b I p3] e pos))
 |.Name x _,.Name y _,.Constant (.bool true) _ _=>gd (G.ds x) fun _=>(slO G nm N x).bind fun s=>(slO G nm N y).map fun l=>⟨zkM s.i l.i,fun g=>by
   obtain⟨s1,s2,f,d⟩:=s.ok g.gx;obtain⟨t1,c,t3,a⟩:=l.ok g.gx
   exact zql (g.gx.un (by decide)) g.gx.same s1 s2 f d t1 c t3 a⟩
 |_,_,_=>none
noncomputable def zxw(nm:Names)(N:List Str)(e:Expr)(p3 pos:Pos):∀b I,Option (Ds G nm N own full (.Assign [.Subscript b I p3] e pos))
 |.Attribute (.Name x px) f _,.Name y _=>gd (G.ob.df f&&G.ob.fk G.ob.cur f) fun c=>(slO G nm N y).bind fun s=>(rc nm N (.Name x px)).bind fun fo=>(rc nm N e).map fun a=>⟨zkN G.ob.cur f fo.f s.i a.f,fun g=>by
   rw[yab]at c;obtain⟨s1,s2,h,d⟩:=s.ok g.gx
   exact zqm s1 s2 h d (g.gx.un (by decide)) g.gx.same (g.gx.gok.fk _ _ c.2) (fo.ok g.gx).2.1 rfl (a.ok g.gx).2.1 zsv zsz (fun _=>rfl)⟩
 |_,_=>none
def zAk(nm:Names)(N:List Str)(e:Expr)(pos:Pos):∀tg,Option (Ds G nm N own full (.Assign [tg] e pos))
 |.Name x px=>zAj rc nm N x px pos e|.Tuple es kt pt=>zAi rc nm N es kt pt pos e|.Attribute (.Name x p) f ap=>zAl rc nm N x f p ap pos e|.Subscript b i p3=>(zzs nm N p3 pos b i e).or (zxw rc nm N e p3 pos b i)|_=>none
def zyr(nm:Names)(N:List Str)(pos:Pos)(e:Expr):Option (Ds G nm N own full (.Expr e pos)):=gd (!zmY e) fun b=>(rc nm N e).map fun a=>⟨zjS a.f,fun g=>zsI (a.ok g.gx).2.1 (zhg ((yaV _).mp b))⟩
noncomputable def zAm(nm:Names)(N:List Str)(m:Str)(ap cp pos:Pos)(a:Expr):∀o,Option (Ds G nm N own full (.Expr (.Call (.Attribute o m ap) [a] [] cp) pos))
 |.Name x _=>gd (decide (m="append")&&(ap.endLine==cp.line)) fun b=>(slO G nm N x).bind fun s=>(rc nm N a).map fun fa=>⟨zif s.i fa.f,fun g=>by
   rw[yab]at b;obtain rfl:=yai b.1;obtain⟨s1,s2,d,c⟩:=s.ok g.gx
   exact zsM s1 s2 d c (fa.ok g.gx).2.1 (zas fa.q) b.2⟩
 |_=>none
noncomputable def zwn(nm:Names)(N:List Str)(m:Str)(ap cp pos:Pos)(a:Expr):∀o,Option (Ds G nm N own full (.Expr (.Call (.Attribute o m ap) [a] [] cp) pos))
 |.Name x _=>gd (decide (m="extend")&&(ap.endLine==cp.line)) fun b=>(slO G nm N x).bind fun s=>(opE rc nm N a).map fun fa=>⟨zr2 s.i fa.f,fun g=>by
   rw[yab]at b;obtain rfl:=yai b.1;obtain⟨s1,s2,d,c⟩:=s.ok g.gx
   exact zsH s1 s2 d c (fa.ok g.gx) (zas fa.q) b.2⟩
 |_=>none
def zAn(nm:Names)(N:List Str)(m:Str)(ap cp pos:Pos)(o a:Expr):Option (Ds G nm N own full (.Expr (.Call (.Attribute o m ap) [a] [] cp) pos)):=gd (decide (m="append")&&(ap.endLine==cp.line)) fun b=>(faG G nm N o).bind fun t=>gd (zt8 t.f) fun _=>(quG G nm N a).map fun q=>⟨zhm G.ob.cur t.f t.i q.q,fun g=>by
   rw[yab]at b;obtain rfl:=yai b.1;obtain⟨i,f,ok⟩:=t;obtain⟨x,p,e,rfl,s1,s2,d,c,fk⟩:=ok g.gx
   exact zqq s1 s2 d c g.gx.same fk rfl (q.ok g.gx) rfl q.pl b.2⟩
noncomputable def zwr(nm:Names)(N:List Str)(m:Str)(ap cp pos:Pos):∀o a,Option (Ds G nm N own full (.Expr (.Call (.Attribute o m ap) [a] [] cp) pos))
 |.Call (.Attribute (.Name x px) y p2) [] [] p3,.Constant .none _ _=>gd (decide (m="append")&&(ap.endLine==cp.line)) fun b=>(rc nm N (.Call (.Attribute (.Name x px) y p2) [] [] p3)).bind fun fo=>gd fo.o fun c=>some ⟨zie fo.f,fun g=>by
   rw[yab]at b;obtain rfl:=yai b.1
   exact znP ((fo.ok g.gx).1 c) b.2 rfl⟩
 |_,_=>none
def zwo(nm:Names)(N:List Str)(pos:Pos):∀e,Option (Ds G nm N own full (.Expr e pos))
 |.Call (.Attribute o m ap) [a] [] cp=>(zwr rc nm N m ap cp pos o a).or ((zAn nm N m ap cp pos o a).or ((zAm rc nm N m ap cp pos a o).or ((zwn rc nm N m ap cp pos a o).or (zyr rc nm N pos _))))|e=>zyr rc nm N pos e
def zzj(nm:Names)(N:List Str)(e:Expr)(pos:Pos):∀own,Option (Ds G nm N own full (.Return (some e) pos))
 |true=>(match e with
  |.Name x _=>(slO G nm N x).map fun s=>⟨zgE s.i,fun g=>by
    obtain⟨s1,s2,c,b⟩:=s.ok g.gx
    exact zqj s1 s2 c b⟩
  |e=>(rc nm N e).bind fun a=>gd a.o fun d=>some ⟨zaJ a.f,fun g=>zqk ((a.ok g.gx).1 d)⟩)
 |false=>(rc nm N e).map fun a=>⟨zaJ a.f,fun g=>zsD (a.ok g.gx).2.1⟩
def zvI(hf:full=true){cl k X E}(g:Gd cl G k X nm N E full)(h:zbb nm c=true)(J:G.exc c=true)(I:args.isEmpty=false)(a:DL G nm N args):PS X (.Raise (some (.Call (.Name c p) args [] cp)) none pos) (tS cl E own (sRz c a.fs)):=by
 cases args with
 |nil=>cases I|cons e es=>
 obtain⟨m,z⟩:=g.gx.gok.exc c J;have a2:=a.q;rw[ybq,yab]at a2;refine PS.imp (zmg (g.raises hf) g.gx.calm (g.gx.glob h).1 m z (a.ok g.gx) (zbI a2.1) (zca a2.2) (g.gx.glob h).2.1) ?_;rintro De σ H ⟨B,w,ρ,S,rfl,R,q⟩;refine⟨B,w,ρ,S,rfl,R,?_⟩;unfold sRz at q
 cases d:zap a.fs ρ S with
 |bad=>rwa[d]at q|exc c S1=>rw[d]at q;exact fun w' f i=>q σ w' f i|ok ds S1=>
  rw[d]at q;dsimp only at q
  cases b:zbh ds.length with
  |false=>rw[b,if_neg (by decide)]at q;exact q.elim
  |true=>
   rw[b,if_pos rfl]at q;exact fun vs w' f i sh=>⟨by rw[sh.length];exact zbm b,q σ w' f i⟩
def zsi{cl k X E}(g:Gd cl G k X nm N E full)(pins:Z3)(J:St->XK):Gd cl G k (zph X pins J) nm N J false where
 gx:=⟨g.gx.gok,g.gx.room,g.gx.calm,fun a σ H s e s' I q=>⟨σ,H,s,zdS I,q⟩,g.gx.eN,g.gx.kk,g.gx.pp,g.gx.ww,g.gx.nd,g.gx.vis,g.gx.fnx,fun x h=>g.gx.fnc x h⟩
 kind:=g.kind
 sc:=g.sc
 own:=nofun
 raises:=nofun
 stk:=g.stk
 frm:=g.frm
noncomputable def zy6(rs:∀b,Option (Dss G nm N own false b))(body:List Stmt)(pos:Pos):∀hs,Option (Ds G nm N own full (.Try body hs [] [] pos))
 |[.ExceptHandler (some (.Name C _)) (some n) [.Expr (.Call (.Attribute (.Name m _) v ap) [.Name u _] [] cp) _] _]=>gd (zbb nm C&&G.exc C&&decide (n=u)&&decide (nm.lookup n=some .local)&&zg0 n&&decide (v="append")&&(ap.endLine==cp.line)) fun p=>match hi:idx N n with
  |some i=>(slO G nm N m).bind fun j=>gd (!decide (i=j.i)) fun d=>(rs body).map fun fb=>⟨zlV G.und C i j.i fb.f,fun {cl _ X _} g=>by
   simp only[yab,yaR]at p;obtain⟨⟨⟨⟨⟨⟨c1,A⟩,rfl⟩,z⟩,y⟩,rfl⟩,x⟩:=p;have d:=of_decide_eq_false ((yaV _).mp d);obtain⟨w,r⟩:=g.gx.gok.exc C A;obtain⟨t,s,_⟩:=zeO y;have e:_=some NameKind.local:=(congrArg (List.lookup n) g.sc).trans z;have h:_=some n:=(congrArg (fun l:List Str=>l[i]?) g.gx.eN).trans (zgl hi);obtain⟨a1,a2,D,B⟩:=j.ok g.gx;refine PS.imp (zqO (tb:=fun o=>tS _ o own fb.f) (th:=zlH (tBM X.K "list" zjd (zhX j.i) (ze8 (zhX i) zll))) g.stk g.frm (by rw[g.gx.eN];exact g.gx.nd) h e (g.gx.glob c1).1 w r (by decide +kernel) (fun pins o=>fb.ok (zsi g pins o)) (fun a=>zdN (zcU (zkT (es:=[]) yaY ybs ybt zdR (za0 (X:=X.inH a) a1 a2 D B) (zam (za0 (X:=X.inH a) h (.inl e) t s) zaQ) (aa:=x)))) (g.gx.glob c1).2.1) ?_;intro De σ H q
   exact zly d (fun c k=>g.gx.gok.und c C k) q⟩
  |none=>none
 |_=>none
def stG(rs:∀I b,Option (Dss G nm N own I b)):∀full st,Option (Ds G nm N own full st)
 |_,.Assign [tg] e p=>zAk rc nm N e p tg|_,.Expr e p=>zwo rc nm N p e|_,.Return (some e) p=>zzj rc nm N e p own|I,.If c a b _=>gd (zcH c) fun ht=>(rc nm N c).bind fun fc=>(rs I a).bind fun fa=>(rs I b).map fun fb=>⟨sIf fc.f fa.f fb.f,fun g=>zvz ((fc.ok g.gx).2.2 ht) (fa.ok g) (fb.ok g)⟩|true,.For tg it body [] _=>(zup rc nm N tg it).bind fun i=>(tgG G nm N N.length tg).bind fun t=>(rs true body).map fun b=>⟨zgS t.t i.f b.f,fun g=>zsG (g.own rfl) g.gx.calm (i.ok g.gx) (t.ok g.gx) (b.ok g) (zhz i.q)⟩|_,.Break _=>some ⟨sBk,fun _=>zsJ⟩|_,.AugAssign (.Name x _) op e _=>(match h:zwC op with
  |none=>none|some j=>(tgI G nm N N.length x).bind fun i=>(rc nm N e).map fun a=>⟨zr3 i.i j a.f,fun g=>by
   obtain⟨a1,a2,m,l,k⟩:=i.ok g.gx
   exact zsK h a2 m l (a.ok g.gx).2.1 k⟩)
 |true,.While c body [] _=>gd (zcH c) fun ht=>(rc nm N c).bind fun fc=>(rs true body).map fun b=>⟨zjR 100000 fc.f b.f,fun g=>znO 100000 (g.own rfl) ((fc.ok g.gx).2.2 ht) (b.ok g)⟩|true,.Raise (some (.Call (.Name c _) args [] _)) none _=>gd (zbb nm c&&G.exc c&&!args.isEmpty) fun d=>(shL rc nm N args).map fun a=>⟨sRz c a.fs,fun g=>by
   simp only[yab,yaV]at d
   exact zvI rfl g d.1.1 d.1.2 d.2 a⟩
 |_,.Try body hs [] [] p=>zy6 (rs false) body p hs|_,_=>none
end
def blk(ds:∀st,Option (Ds G nm N own full st)):∀b,Option (Dss G nm N own full b)
 |[]=>some ⟨sNx,fun _=>zsF⟩|s::r=>(ds s).bind fun f=>(blk ds r).map fun h=>⟨zac f.f h.f,fun g=>zlJ (f.ok g) (h.ok g)⟩
def zlc(G:Genv)(nm:Names)(N:List Str)(own:Bool):Nat->∀full st,Option (Ds G nm N own full st)
 |0=>fun _ _=>none|n+1=>fun full st=>(stG (zys G n) (fun b=>blk (zlc G nm N own n b)) full st).map fun a=>⟨sFz (zqT n own nm N st) a.f,fun g=>zvA _ (a.ok g)⟩
noncomputable def zaI(I:Nat)(own:Bool)(fs:Fs)(ds:List D)(S:Sto):Out D:=match fs (ds.map (fun d=>~~~d)++List.replicate (I-ds.length) none) S with
 |.rt d S'=>.ok d S'|.nx _ S'=>if own then .bad else .ok .non S'
 |.ex c _ S'=>.exc c S'|_=>.bad
def ze2(G:Genv)(own:Bool)(N:List Str)(st:Stmt):Option Fs:=(blk (zlc G (zae st).names N own 40 true) (zaP st)).map Dss.f
def zpV{cl k X E}{G:Genv}{own:Bool}{N:List Str}{st:Stmt}{f:Fs}(h:ze2 G own N st=some f)(g:Gd cl G k X (zae st).names N E true):PSs X (zaP st) (tS cl E own f):=by
 obtain⟨a,_,rfl⟩:=ycM.mp h;exact a.ok g
section
variable{cl:Cf}
theorem zjz(I:zgA cl n own (zaI N.length own fs) vs H Q X):tS cl (fun _=>X) own fs {nx:=fun _ H'=>Q .non H',rt:=Q} (L2.zgD N vs) H:=by
 obtain⟨p,B,w,ds,k,rfl,W,sh,q⟩:=I;have g:ds.length=vs.length:=sh.length.symm;refine⟨B,w,ds.map (fun d=>~~~d)++List.replicate (N.length-ds.length) none,k,rfl,⟨W,?_,fun i o d hi=>?_⟩,?_⟩
 ·unfold L2.zgD;rw[yap,yap,yaf,yaf,yaL,yaL,g]
 ·by_cases f:i<ds.length
  ·rw[yaZ (by rw[yaf];exact f),yaw]at hi
   cases a:ds[i]? with
   |none=>rw[a]at hi;cases hi|some d'=>
    rw[a]at hi;cases hi;obtain⟨v,m,l⟩:=sh.at a;refine⟨v,?_,l⟩;unfold L2.zgD;rw[yaZ (by rw[yaf];omega),yaw,m];rfl
  ·rw[yaG (by rw[yaf];omega),ybX]at hi
   split at hi<;>cases hi
 ·unfold zaI at q
  cases hf:fs (ds.map (fun d=>~~~d)++List.replicate (N.length-ds.length) none) k with
  |bad=>rwa[hf]at q|bk _ _=>rw[hf]at q;exact q.elim|ct _ _=>rw[hf]at q;exact q.elim|rt d S'=>rwa[hf]at q|ex c e S'=>rw[hf]at q;exact fun b w' h j=>q w' h.wd j|nx e S'=>
   rw[hf]at q;dsimp only at q
   cases own with
   |true=>exact q.elim|false=>exact fun b w' h j=>q .non w' h.wd j .non
end
theorem zoY{P:Program}{wo:PySem.World}{K:PySem.W.Frag}{mg:Z6}{base:Heap}{cl:Cf}{G:Genv}{k:Nat}{x qual:Str}{st:Stmt}{f:Addr}{fd:FuncData}{N ps:List Str}{own:Bool}{fs:Fs}(F:Fun K x qual st f fd)(S:FnScope N ps (zae st))(hG:GOk cl G P wo K mg base k)
  (J:K=cl.K) (hP:P=cl.P) (U:wo=cl.wo) (hd:ze2 G own N st=some fs):FnOk P wo K mg base (CXE P wo) (k+1) f fd ps (zgA cl ps.length own (zaI N.length own fs)):=by
 obtain⟨m,l,kV,doc,pm,an,j,ct,c,rfl,d,b⟩:=F.ex;refine zm9 d b S (fun vs H Q E h=>h.1) fun A outer s H vs Q E i a=>⟨tS cl (fun _=>E) own fs,zpV hd (k:=k) ⟨⟨hG,i,rfl,fun pins σ H1 s1 e s' I q=>zot pins σ H1 s1 e s' I q,rfl,J,hP,U,S.nd,fun x g h=>⟨g,h,.inl rfl⟩,(fun x h=>h),(fun x h=>rfl)⟩,S.kind,rfl,fun _=>PassesOwn.leaving,fun _ C pins σ H1 s1 e h' vs I mk q=>zjc C pins σ H1 s1 e h' vs I mk q,rfl,rfl⟩,zjz a⟩
structure FunD(K:PySem.W.Frag)(x qual:Str)(st:Stmt)(f:Addr)(fd:FuncData)(items:Array Value):Prop where
 ex:∃(oc:Value) (od:Option Addr) (T:Addr) (o:Obj) (n:Nat) (kV doc pm:Value) (an:Option Addr) (cdv ct:Value) (osl:Array (Option Value)),
  fd=PySem.W.fnOf x qual (zbR st) (zaP st) (zae st) (.ref T) kV doc pm an cdv ct/\K.lookup f=some ⟨oc,od,.func fd,osl⟩/\PySem.W.codeIn K cdv qual=true/\K.lookup T=some o/\o.data=.seq items n
def zuv{P:Program}{wo:PySem.World}{K:PySem.W.Frag}{mg:Z6}{base:Heap}{cl:Cf}{G:Genv}{k:Nat}{x qual:Str}{st:Stmt}{f:Addr}{fd:FuncData}{N ps:List Str}{own:Bool}{fs:Fs}{items:Array Value}(F:FunD K x qual st f fd items)(S:FnScope N ps (zae st))(hG:GOk cl G P wo K mg base k)
  (J:K=cl.K) (hP:P=cl.P) (U:wo=cl.wo) (hd:ze2 G own N st=some fs):FnOk P wo K mg base (CXE P wo) (k+1) f fd ps (zgA cl ps.length own (zaI N.length own fs)):=by
 obtain⟨m,l,T,o,n,kV,doc,pm,an,j,ct,c,rfl,d,b,_⟩:=F.ex;refine zm9 d b S (fun vs H Q E h=>h.1) fun A outer s H vs Q E i a=>⟨tS cl (fun _=>E) own fs,zpV hd (k:=k) ⟨⟨hG,i,rfl,fun pins σ H1 s1 e s' I q=>zot pins σ H1 s1 e s' I q,rfl,J,hP,U,S.nd,fun x g h=>⟨g,h,.inl rfl⟩,(fun x h=>h),(fun x h=>rfl)⟩,S.kind,rfl,fun _=>PassesOwn.leaving,fun _ C pins σ H1 s1 e h' vs I mk q=>zjc C pins σ H1 s1 e h' vs I mk q,rfl,rfl⟩,zjz a⟩
noncomputable def inC(j:Nat):Stmt->Stmt|.ClassDef _ _ _ b ..=>b.getD j (.Pass ⟨0,0,0,0⟩)|s=>s
structure Tab where
 con:List (Str×D)
 blt:List Str
 exc:List Str
 und:List (Str×Str)
 rz:List Str
 fk:List (Str×Str)
 df:List Str
 ds:List Str
noncomputable def zu7(rz exc:List Str)(c C:Str):Option Bool:=if rz.contains c then(if C="ValueError"then some true else if exc.contains C then some (decide (C=c)||decide (C="FloorError"))else none)else none
noncomputable def zsf(l:List (Str×Str))(c C:Str):Bool:=l.contains (c,C)
structure Fn3 where
 cur:Str
 fs:List (Str×FnI)
 ms:List (Str×Str×FnI)
 ks:List (Str×List D×FnI)
def Gn(T:Tab)(F:Fn3):Genv:=⟨fun x=>T.con.lookup x,fun x=>F.fs.lookup x,fun x=>T.blt.contains x,fun x=>T.exc.contains x,zsf T.und,zu7 T.rz T.exc,⟨F.cur,zsf T.fk,fun f=>T.df.contains f,fun m=>F.ms.lookup m,fun c=>F.ks.lookup c⟩,fun x=>T.ds.contains x⟩
noncomputable def Fn3.fn(F:Fn3)(x:Str)(fi:FnI):Fn3:=⟨F.cur,(x,fi)::F.fs,F.ms,F.ks⟩
noncomputable def Fn3.mt(F:Fn3)(m c:Str)(fi:FnI):Fn3:=⟨F.cur,F.fs,(m,c,fi)::F.ms,F.ks⟩
noncomputable def Fn3.cls(F:Fn3)(c:Str)(I:List D)(fi:FnI):Fn3:=⟨F.cur,F.fs,F.ms,(c,I,fi)::F.ks⟩
noncomputable def Fn3.at(F:Fn3)(c:Str):Fn3:=⟨c,F.fs,F.ms,F.ks⟩
section
variable{cl:Cf}{T:Tab}{P:Program}{wo:PySem.World}{K:PySem.W.Frag}{mg:Z6}{base:Heap}{k:Nat}{fs:Fn3}
def zcN{α:Type}{a:α}{l:List (Str×α)}{b:α}(h:((x,a)::l).lookup y=some b):(y=x/\b=a)\/l.lookup y=some b:=by
 rw[yaA]at h
 cases e:y==x with
 |true=>rw[e]at h;cases h;exact .inl ⟨eq_of_beq e,rfl⟩|false=>rw[e]at h;exact .inr h
def zdT{α:Type}{p:α->Prop}:∀x∈([]:List α),p x:=fun _ h=>nomatch h
def zab{α:Type}{p:α->Prop}{a:α}{l:List α}(h:p a)(t:∀x∈l,p x):∀x∈a::l,p x:=fun x b=>(yan.mp b).elim (fun e=>e ▸ h) (t x)
theorem ziA{α:Type}{a:α}:∀{l:List (Str×α)},l.lookup x=some a->(x,a)∈l
 |[],h=>by cases h
 |(y,b)::l,h=>by
  rcases zcN h with⟨rfl,rfl⟩|h
  ·exact yay
  ·exact yas _ (ziA h)
noncomputable def zuV(K:PySem.W.Frag)(cl:Cf)(exc:List Str)(c:Str):Prop:=PySem.W.ExcCls K (cl c)/\PySem.W.kitOne K (.ref (cl c)) (.type "ValueError")=some true/\∀C∈exc,PySem.W.kitOne K (.ref (cl c)) (.ref (cl C))=some (decide (C=c)||decide (C="FloorError"))
def zz8(J:∀p∈T.con,∃v u,mg p.1=some u/\zbu v u/\∀w,Shd cl w v p.2)(hb:∀x∈T.blt,mg x=none)(he:∀c∈T.exc,mg c=some (.ref (cl c))/\PySem.W.excIn K (cl c) bmV "ValueError.__new__"=true)(hu:∀p∈T.und,L2.zpd K (cl p.1) (cl p.2))(U:∀c∈T.rz,zuV K cl T.exc c)(I:∀p∈T.fk,Cls cl.K (cl p.1)/\zdE cl.K (cl p.1) p.2):GOk cl (Gn T ⟨"",[],[],[]⟩) P wo K mg base 0 where
 fk:=fun c f h=>I (c,f) (by simpa using(show T.fk.contains (c,f)=true from h))
 mt:=fun m c fi h=>by cases h
 mks:=fun c e fi h=>by cases h
 con:=fun x d h=>J (x,d) (ziA h)
 fn:=fun x fi h=>by cases h
 blt:=fun x h=>hb x (by simpa using(show T.blt.contains x=true from h))
 exc:=fun c h=>he c (by simpa using(show T.exc.contains c=true from h))
 und:=fun c C h=>hu (c,C) (by simpa using(show T.und.contains (c,C)=true from h))
 isx:=fun c C b h=>by
  have h':zu7 T.rz T.exc c C=some b:=h;unfold zu7 at h';split at h'
  ·rename_i J;obtain⟨x1,x2,x3⟩:=U c (by simpa using J);refine⟨x1,?_⟩;unfold zuE;split at h'
   ·rename_i a;cases h';rw[if_pos a];exact x2
   ·rename_i a;rw[if_neg a];split at h'
    ·rename_i hm;cases h';exact x3 C (by simpa using hm)
    ·cases h'
  ·cases h'
def GOk.add(g:GOk cl (Gn T fs) P wo K mg base k)(m:mg x=some (.ref f))(kp:PySem.W.keepIn K (.ref f)=true)(b:zbz K fd ps [])(F:FnOk P wo K mg base (CXE P wo) (k+1) f fd ps (zgA cl fi.ar fi.own fi.run)):
  GOk cl (Gn T (fs.fn x fi)) P wo K mg base (k+1)where
 con:=g.con
 fn:=fun y n h=>by
  rcases zcN h with⟨rfl,rfl⟩|h
  ·exact⟨f,fd,ps,m,kp,b,F⟩
  ·obtain⟨e,d,a,h1,h2,i,h4⟩:=g.fn y n h;exact⟨e,d,a,h1,h2,i,h4.mono (ycp _)⟩
 blt:=g.blt
 exc:=g.exc
 und:=g.und
 isx:=g.isx
 fk:=g.fk
 mt:=fun m c fi h=>by
  obtain⟨e,d,a,h1,h2,i,h4⟩:=g.mt m c fi h;exact⟨e,d,a,h1,h2,i,h4.mono (ycp _)⟩
 mks:=fun c j fi h=>by
  obtain⟨e,d,a,dvs,ds,k',l,z⟩:=g.mks c j fi h;exact⟨e,d,a,dvs,ds,k',Nat.le_succ_of_le l,z⟩
theorem GOk.at(g:GOk cl (Gn T fs) P wo K mg base k)(c:Str):GOk cl (Gn T (fs.at c)) P wo K mg base k:=⟨g.con,g.fn,g.blt,g.exc,g.und,g.isx,g.fk,g.mt,g.mks⟩
def GOk.up(g:GOk cl (Gn T fs) P wo K mg base k)(I:k<=k'):GOk cl (Gn T fs) P wo K mg base k' where
 con:=g.con
 fn:=fun y l h=>by
  obtain⟨d,b,a,h1,h2,e,h4⟩:=g.fn y l h;exact⟨d,b,a,h1,h2,e,h4.mono I⟩
 blt:=g.blt
 exc:=g.exc
 und:=g.und
 isx:=g.isx
 fk:=g.fk
 mt:=fun m c fi h=>by
  obtain⟨d,b,a,h1,h2,e,h4⟩:=g.mt m c fi h;exact⟨d,b,a,h1,h2,e,h4.mono I⟩
 mks:=fun c f fi h=>by
  obtain⟨d,b,a,dvs,ds,j,i,z⟩:=g.mks c f fi h;exact⟨d,b,a,dvs,ds,j,yak i I,z⟩
def GOk.addM(g:GOk cl (Gn T fs) P wo K mg base k)(I:Cls K (cl c))(hm:Meth K (cl c) m f)(b:zbz K fd ps [])(F:FnOk P wo K mg base (CXE P wo) k f fd ps (zgA cl fi.ar fi.own fi.run)):
  GOk cl (Gn T (fs.mt m c fi)) P wo K mg base k where
 con:=g.con
 fn:=g.fn
 blt:=g.blt
 exc:=g.exc
 und:=g.und
 isx:=g.isx
 fk:=g.fk
 mt:=fun d c' a h=>by
  rcases zcN h with⟨rfl,e⟩|h
  ·cases e;exact⟨f,fd,ps,I,hm,b,F⟩
  ·exact g.mt d c' a h
 mks:=g.mks
def GOk.addK(g:GOk cl (Gn T fs) P wo K mg base k)(hk:k'+1<=k)(hm:mg c=some (.ref (cl c)))(M:Mk K (cl c) f)(b0:zbz K fd ps [])(bD:zbz K fd ps ds)(J:Vals dvs ds)(U:∀w,Shds cl w dvs I)(F:FnOk P wo K mg base (CXE P wo) k' f fd ps (zgA cl fi.ar false fi.run)):
  GOk cl (Gn T (fs.cls c I fi)) P wo K mg base k where
 con:=g.con
 fn:=g.fn
 blt:=g.blt
 exc:=g.exc
 und:=g.und
 isx:=g.isx
 fk:=g.fk
 mt:=g.mt
 mks:=fun c' a b h=>by
  rcases zcN h with⟨rfl,e⟩|h
  ·cases e;exact⟨f,fd,ps,dvs,ds,k',hk,hm,M,b0,bD,J,U,F⟩
  ·exact g.mks c' a b h
noncomputable def zn6(I:Nat)(own:Bool)(body:(List D->Sto->Out D)->Fs):Nat->List D->Sto->Out D
 |0=>fun _ _=>.bad|n+1=>zaI I own (body (zn6 I own body n))
def zpp(h:zgA cl n own (fun _ _=>.bad) vs H Q E):False:=by
 obtain⟨_,B,w,ds,S,_,_,_,q⟩:=h;exact q
theorem GOk.addR{m c qual:Str}{st:Stmt}{f:Addr}{fd:FuncData}{N ps:List Str}{own:Bool}{body:(List D->Sto->Out D)->Fs}(g:GOk cl (Gn T fs) P wo K mg base k)(U:Fun K m qual st f fd)(S:FnScope N ps (zae st))(hK:K=cl.K)(hP:P=cl.P)(J:wo=cl.wo)(I:Cls K (cl c))(hm:Meth K (cl c) m f)(b:zbz K fd ps [])
  (hd:∀r,ze2 (Gn T ((fs.mt m c ⟨ps.length,own,r⟩).at c)) own N st=some (body r)):∀n,GOk cl (Gn T (fs.mt m c ⟨ps.length,own,zn6 N.length own body n⟩)) P wo K mg base (k+n)
 |0=>g.addM I hm b ⟨fun vs H Q E h=>(zpp h).elim,fun A outer s H args us vs Q E d he e a h=>(zpp h).elim⟩|n+1=>(g.up (yb3 k (n+1))).addM I hm b (zoY U S ((g.addR U S hK hP J I hm b hd n).at c) hK hP J (hd _))
def znp(x:PySem.W.excIn K C b i=true):(PySem.W.clsIn K C).isSome=true/\PySem.W.typeIn K (.ref C)=some (.type "type"):=by
 unfold PySem.W.excIn at x;split at x
 ·rename_i d cd a e;refine⟨?_,?_⟩
  ·unfold PySem.W.clsIn;rw[e];rfl
  ·show(K.lookup C).map (·.cls)=_;rw[e];rfl
 ·cases x
def zhh(U:K.lookup C=some ⟨el,ed,.cls I,es⟩)(J:I.mro=.ref C::m):PySem.W.subIn K (.ref C) v=some ((Value.ref C::m).contains v):=by
 show PySem.W.mroIn K C v=_;unfold PySem.W.mroIn PySem.W.clsIn;rw[U];show(if I.mro.isEmpty then none else some (I.mro.contains v))=_;rw[J];rfl
def zl8(h:a≠b):(Value.ref a==Value.ref b)=false:=Bool.eq_false_iff.mpr fun z=>h (Value.ref.inj (yce.mp z))
theorem zrj(J:K.lookup C=some ⟨el,ed,.cls U,es⟩)(I:U.mro=.ref C::.ref F::bmV):PySem.W.kitOne K (.ref C) (.type "ValueError")=some true:=by
 have h1:PySem.W.kitMeta "ValueError"=true:=by decide +kernel
 have h0:(Value.ref C==Value.type "ValueError")=false:=by with_unfolding_all rfl
 unfold PySem.W.kitOne PySem.W.kitCls;simp only[h0,h1,zhh J I];simp
def zrk{C D F:Addr}{el:Value}{ed:Option Addr}{I:ClassData}{es:Array (Option Value)}{b:List Value}{i:String}(U:K.lookup C=some ⟨el,ed,.cls I,es⟩)(J:I.mro=.ref C::.ref F::bmV)(x:PySem.W.excIn K D b i=true):PySem.W.kitOne K (.ref C) (.ref D)=some (decide (D=C)||decide (D=F)):=by
 by_cases h:D=C
 ·subst h;unfold PySem.W.kitOne;rw[if_pos (ybn _)];simp
 ·obtain⟨h1,h2⟩:=znp x;have h0:=zl8 (fun z=>h z.symm:C≠D);unfold PySem.W.kitOne PySem.W.kitCls;simp only[h0,h1,h2,zhh U J];have c:(Value.ref D==Value.ref C)=false:=zl8 h;simp only[ycE,c,Bool.false_or,yaK,ybr,ybn,Bool.and_self,ycX,h,decide_false]
  by_cases h4:D=F
  ·subst h4;simp
  ·have a:(Value.ref D==Value.ref F)=false:=zl8 h4;simp only[a,Bool.false_or,h4,decide_false,Option.some.injEq]
   with_unfolding_all rfl
def zga{c:ClassData}{C F:Addr}{m:List Value}(h:c.mro=.ref C::.ref F::m):c.mro.contains (.ref F)=true:=by
 rw[h,ycE,ycE,ybn,Bool.true_or,Bool.or_true]
def zp0{L:List (Str×Addr)}:∀{C:Str},C∈L.map (·.1)->∃a,L.lookup C=some a/\(C,a)∈L:=by
 induction L with
 |nil=>intro C h;simp at h|cons p L b=>
  intro C h;rw[yaA]
  cases e:C==p.1 with
  |true=>exact⟨p.2,rfl,by rw[eq_of_beq e];exact yay⟩
  |false=>
   have:C∈L.map (·.1):=by
    rw[yav,yan]at h
    rcases h with h|h
    ·rw[h]at e;simp at e
    ·exact h
   obtain⟨a,h1,h2⟩:=b this;exact⟨a,h1,yas _ h2⟩
theorem zlO:∀{L:List (Str×Addr)},(L.map (·.2)).Nodup->∀{C c:Str}{a:Addr},(C,a)∈L->(c,a)∈L->C=c
 |[],_,_,_,_,h,_=>by simp at h
 |p::L,nd,C,c,a,h,h'=>by
  rw[yav,ybk]at nd;rw[yan]at h h'
  rcases h with h|h<;>rcases h' with h'|h'
  ·rw[<-h']at h;exact(Prod.mk.inj h).1
  ·exact absurd (yat.mpr ⟨_,h',by rw[<-h]⟩) nd.1
  ·exact absurd (yat.mpr ⟨_,h,by rw[<-h']⟩) nd.1
  ·exact zlO nd.2 h h'
def zuS{L:List (Str×Addr)}(nd:(L.map (·.2)).Nodup){C c:Str}(J:C∈L.map (·.1))(I:c∈L.map (·.1)):(L.lookup C).getD 0=(L.lookup c).getD 0↔C=c:=by
 obtain⟨a,h1,h2⟩:=zp0 J;obtain⟨b,d,h4⟩:=zp0 I;rw[h1,d];constructor
 ·intro e;have:a=b:=e;subst this;exact zlO nd h2 h4
 ·rintro rfl;rw[h1]at d;cases d;rfl
def ziD
  (I:K.lookup (cl c)=some ⟨el,ed,.cls ec,es⟩) (J:ec.mro=.ref (cl c)::.ref F::bmV) (hF:cl "FloorError"=F)
  (ga:PySem.W.findIn K (.ref (cl c)) "__getattribute__"=some (some (.builtin "BaseException.__getattribute__"))) (gt:PySem.W.findIn K (.ref (cl c)) "__getattr__"=some none) (cc:PySem.W.findIn K (.ref (cl c)) "__class__"=some (some (.builtin "object.__class__")))
  (U:∀C∈exc,PySem.W.excIn K (cl C) bmV "ValueError.__new__"=true) (hi:∀C∈exc,(cl C=cl c↔C=c)/\(cl C=cl "FloorError" ↔ C="FloorError")):zuV K cl exc c:=by
 refine⟨⟨ga,gt,cc,?_,?_,_,_,_,_,I⟩,zrj I J,fun C a=>?_⟩
 ·rw[zhh I J];simp
 ·rw[zhh I J];simp
 ·rw[zrk I J (U C a)];obtain⟨i1,i2⟩:=hi C a;rw[hF]at i2;simp only[i1,i2]
end
noncomputable def znS(K:PySem.W.Frag):Sp:=fun vs H Q _=>∃(a:Addr) (ns:List Int),vs=[.ref a]/\ns.length<=63/\zvc H/\SqL K H a (ns.map V.int)/\∀H',Q (.bl true) H'
def zt9{cl:Cf}{run:List D->Sto->Out D}(I:∀l:List Int,l.length<=63->∃S,run [.scr l] []=.ok (.bl true) S):∀vs H Q E,znS cl.K vs H Q E->zgA cl 1 false run vs H Q E:=by
 rintro vs H Q E ⟨a,ns,rfl,c,d,b,q⟩;refine⟨rfl,⟨fun _=>none,fun _=>none⟩,⟨H,fun _=>none,[]⟩,[.scr ns],[],rfl,⟨(fun a o h=>by cases h),(fun a r h=>by cases h),rfl,(fun n ob h=>by simp at h)⟩,.cons ?_ .nil,?_⟩
 ·rcases b with(b|⟨o,b⟩)|b
  ·rcases d a with z|⟨o,xs,z⟩
   ·rw[b]at z;cases z
   ·rw[b]at z;cases z
  ·exact .scr b rfl
  ·exact .scrK fun H=>.inr b
 ·obtain⟨S',e⟩:=I ns c;rw[e];intro v w' _ _ r;have r':Shd cl w' v (.bl true):=r;cases r';exact q _
structure FnT(K:PySem.W.Frag)(x q:Str)(st:Stmt)(f:Addr):Prop where
 ex:∃(oc:Value) (od:Option Addr) (kV dc pm:Value) (an:Option Addr) (cd ct:Value) (sl:Array (Option Value)),K.lookup f=some ⟨oc,od,.func (PySem.W.fnOf x q (zbR st) (zaP st) (zae st) .none kV dc pm an cd ct),sl⟩/\PySem.W.codeIn K cd q=true/\PySem.W.keepIn K (.ref f)=true/\PySem.W.isFn K (.ref f)=true
structure GFn(K:PySem.W.Frag)(n x:Str)(st:Stmt):Prop where
 ex:∃f,PySem.W.nsIn K mainGlobals n=some (some (.ref f))/\FnT K x x st f
structure MFn(K:PySem.W.Frag)(C:Addr)(m q:Str)(st:Stmt):Prop where
 ex:∃f,PySem.W.findIn K (.ref C) m=some (some (.ref f))/\FnT K m q st f
noncomputable def BB(x q:Str)(st:Stmt)(ps:List Str):Prop:=∀(kV doc pm:Value) (an:Option Addr) (a ct:Value) (us:List Value),us.length=ps.length->bindArgs (PySem.W.fnOf x q (zbR st) (zaP st) (zae st) .none kV doc pm an a ct) ⟨us,[]⟩=pure (ps.zip us)
def bb0{p:List Value->Prop}(h:p []):∀us:List Value,us.length=0->p us:=fun us e=>by rw[ya4 e];exact h
def bbS{n:Nat}{p:List Value->Prop}(h:∀a:Value,∀us:List Value,us.length=n->p (a::us)):∀us:List Value,us.length=n+1->p us:=fun us e=>by
 cases us with
 |nil=>cases e|cons a us=>exact h a us (Nat.succ.inj e)
def bb1{p:List Value->Prop}(h:∀a0:Value,p [a0]):∀us:List Value,us.length=1->p us:=bbS fun a0=>bb0 (h a0)
def bb2{p:List Value->Prop}(h:∀a0 a1:Value,p [a0,a1]):∀us:List Value,us.length=2->p us:=bbS fun a0=>bbS fun a1=>bb0 (h a0 a1)
def bb3{p:List Value->Prop}(h:∀a0 a1 a2:Value,p [a0,a1,a2]):∀us:List Value,us.length=3->p us:=bbS fun a0=>bbS fun a1=>bbS fun a2=>bb0 (h a0 a1 a2)
def bb4{p:List Value->Prop}(h:∀a0 a1 a2 I:Value,p [a0,a1,a2,I]):∀us:List Value,us.length=4->p us:=bbS fun a0=>bbS fun a1=>bbS fun a2=>bbS fun I=>bb0 (h a0 a1 a2 I)
def bb6{p:List Value->Prop}(h:∀a0 a1 a2 U J I:Value,p [a0,a1,a2,U,J,I]):∀us:List Value,us.length=6->p us:=bbS fun a0=>bbS fun a1=>bbS fun a2=>bbS fun U=>bbS fun J=>bbS fun I=>bb0 (h a0 a1 a2 U J I)
section
variable{cl:Cf}{T:Tab}{P:Program}{wo:PySem.World}{K:PySem.W.Frag}{mg:Z6}{base:Heap}{k:Nat}{fs:Fn3}
def FnT.un{x q:Str}{st:Stmt}{f:Addr}{ps:List Str}(p:FnT K x q st f)(b:BB x q st ps):∃fd,Fun K x q st f fd/\zbz K fd ps []/\PySem.W.keepIn K (.ref f)=true/\PySem.W.isFn K (.ref f)=true:=by
 obtain⟨e,d,kV,g,pm,an,cd,ct,a,l,c,kp,i⟩:=p.ex;have U:=zpO (st:=st) l c kp;exact⟨_,U,U.binds b,kp,i⟩
def scB(N:List Str)(k:Nat)(sc:Scope):Bool:=decide (sc.kind=.function/\sc.isCoroutine=false/\sc.isGenerator=false/\N.Nodup/\N.take (N.take k).length=N.take k/\(∀x∈N.take k,sc.names.lookup x=some .local\/sc.names.lookup x=some .cell)/\∀y∈sc.names,y.2≠.free)
def za1(G:Genv)(own:Bool)(N:List Str)(k:Nat)(st:Stmt):Option Fs:=match scB N k (zae st)with|true=>ze2 G own N st|false=>none
def zfk{G:Genv}{own:Bool}{N:List Str}{k:Nat}{st:Stmt}{f:Fs}(h:za1 G own N k st=some f):FnScope N (N.take k) (zae st)/\ze2 G own N st=some f:=by
 unfold za1 at h
 cases e:scB N k (zae st)with
 |false=>rw[e]at h;cases h|true=>
  rw[e]at h;obtain⟨a,b,c,d,i,f,g⟩:=yai e;exact⟨⟨a,b,c,d,i,f,g⟩,h⟩
def GOk.addG{n x:Str}{st:Stmt}{N:List Str}{j:Nat}{own:Bool}{f_:Fs}{h:Heap}(g:GOk cl (Gn T fs) P wo K mg base k)(X:K.In h)(G:h.Ns mainGlobals mg)(p:GFn K n x st)(hK:K=cl.K)(J:P=cl.P)(I:wo=cl.wo)(hd:za1 (Gn T fs) own N j st=some f_)(b:BB x x st (N.take j)):
  GOk cl (Gn T (fs.fn n ⟨(N.take j).length,own,zaI N.length own f_⟩)) P wo K mg base (k+1):=by
 obtain⟨f,a,p⟩:=p.ex;obtain⟨fd,U,B,kp,_⟩:=p.un b;exact GOk.add g (yaP X G a) kp B (zoY U (zfk hd).1 g hK J I (zfk hd).2)
def GOk.addMG{m c q:Str}{st:Stmt}{N:List Str}{j:Nat}{own:Bool}{f_:Fs}(g:GOk cl (Gn T fs) P wo K mg base k)(cc:Cls K (cl c))(p:MFn K (cl c) m q st)(hK:K=cl.K)(J:P=cl.P)(I:wo=cl.wo)(hd:za1 (Gn T (fs.at c)) own N j st=some f_)(b:BB m q st (N.take j)):
  GOk cl (Gn T (fs.mt m c ⟨(N.take j).length,own,zaI N.length own f_⟩)) P wo K mg base (k+1):=by
 obtain⟨f,a,p⟩:=p.ex;obtain⟨fd,U,B,kp,i⟩:=p.un b;exact GOk.addM (g.up (ycp _)) cc ⟨a,i,kp⟩ B (zoY U (zfk hd).1 (g.at c) hK J I (zfk hd).2)
def GOk.addRG{m c q:Str}{st:Stmt}{N ps:List Str}{own:Bool}{body:(List D->Sto->Out D)->Fs}(g:GOk cl (Gn T fs) P wo K mg base k)(cc:Cls K (cl c))(p:MFn K (cl c) m q st)(S:FnScope N ps (zae st))(hK:K=cl.K)(J:P=cl.P)(I:wo=cl.wo)(b:BB m q st ps)
  (hd:∀r,ze2 (Gn T ((fs.mt m c ⟨ps.length,own,r⟩).at c)) own N st=some (body r)) (n:Nat):GOk cl (Gn T (fs.mt m c ⟨ps.length,own,zn6 N.length own body n⟩)) P wo K mg base (k+n):=by
 obtain⟨f,a,p⟩:=p.ex;obtain⟨fd,U,B,kp,i⟩:=p.un b;exact GOk.addR g U S hK J I cc ⟨a,i,kp⟩ B hd n
def GOk.addKG{c q:Str}{st:Stmt}{N:List Str}{j:Nat}{f_:Fs}{h:Heap}(g:GOk cl (Gn T fs) P wo K mg base k)(X:K.In h)(G:h.Ns mainGlobals mg)(J:PySem.W.nsIn K mainGlobals c=some (some (.ref (cl c))))(mk:PySem.W.makesIn K (cl c)=true)(I:PySem.W.keepIn K (.ref (cl c))=true)(p:MFn K (cl c) "__init__" q st)(hK:K=cl.K)(hP:P=cl.P)(hW:wo=cl.wo)(hd:za1 (Gn T (fs.at c)) false N j st=some f_)(b:BB "__init__" q st (N.take j)):
  GOk cl (Gn T (fs.cls c [] ⟨(N.take j).length,false,zaI N.length false f_⟩)) P wo K mg base (k+2):=by
 obtain⟨f,a,p⟩:=p.ex;obtain⟨fd,U,B,kp,i⟩:=p.un b;exact GOk.addK (k':=k+1) (dvs:=[]) (fi:=⟨(N.take j).length,false,zaI N.length false f_⟩) (g.up (yb3 k 2)) (yag _) (yaP X G J) ⟨mk,a,i,I⟩ B B .nil (fun _=>.nil) (zoY U (zfk hd).1 (g.at c) hK hP hW (zfk hd).2)
end
open PySem
open L2 hiding D
noncomputable def zcn:Fs:=
  (zac (sFz [] (zaJ (zgB (eUn (zgj "tuple") (zag 0)) (zc9 leD leD (zag 1) (zax zeg [(zag 0)]) (zag 2)))))
  sNx)
noncomputable def zaB:List S2.D->Sto->Out S2.D:=zaI 3 false zcn
noncomputable def zgs:Fs:=
  (zac (sFz [] (zbd 1 false (eIf (zaf gtD (zax zeg [(zag 0)]) (zad (.int 0))) (zax zeg [(zaf ixD (zag 0) (zad (.int 0)))]) (zad (.int 0)))))
  (zac (sFz [1] (zaJ (zcg [(zax zeg [(zag 0)]),(zaa 1)])))
  sNx))
noncomputable def zb9:List S2.D->Sto->Out S2.D:=zaI 2 false zgs
noncomputable def zcq:Fs:=
  (zac (sFz [3,4] (zif 2 (zcg [(zaa 3),(zaa 4)]))) sNx)
noncomputable def zdx:Fs:=
  (zac (sFz [] (zgS (.one 4) (zdt (zaf ixD (zag 1) (zad (.int 1)))) zcq)) sNx)
noncomputable def zes:Fs:=
  (zac (sFz [0] (zbd 1 false (eFn zb9 [(zaa 0)])))
  (zac (sFz [] (zbd 2 true (zee [])))
  (zac (sFz [] (zgS (.one 3) (zdt (zaf ixD (zag 1) (zad (.int 0)))) zdx))
  (zac (sFz [] (zgE 2))
  sNx))))
noncomputable def zaG:List S2.D->Sto->Out S2.D:=zaI 5 true zes
noncomputable def zdq:Fs:=
  (zac (sFz [1] (zaJ (eFn zaB [(zaa 1),(zax zeg [(zag 0)]),(zax zeg [(zag 0)])])))
  sNx)
noncomputable def zbK:List S2.D->Sto->Out S2.D:=zaI 2 false zdq
noncomputable def zeW:Fs:=
  (zac (sFz [1] (sIf (eUn zeP (eFn zaB [(zaa 1),(zax zeg [(zag 0)]),(zax zeg [(zag 0)])])) (zac (sFz [] (zaJ (zad (.bl false)))) sNx) sNx))
  (zac (sFz [0,1] (zaJ (zax zsa [(zb2 2 (.tup [0,1]) (zk7 (zaa 0) (zaa 1)) zeY (eFn zbK [(zaa 0),(zaa 1)]) [])])))
  sNx))
noncomputable def zdJ:List S2.D->Sto->Out S2.D:=zaI 2 false zeW
noncomputable def zeu:Fs:=
  (zac (sFz [] (zaJ (zaf ixD (zaf ixD (zag 0) (zaf ixD (zag 1) (zad (.int 0)))) (zaf ixD (zag 1) (zad (.int 1))))))
  sNx)
noncomputable def zao:List S2.D->Sto->Out S2.D:=zaI 2 false zeu
noncomputable def zdp:Fs:=
  (zac (sFz [0,0] (zaJ (zb2 1 (.one 0) (zbe (eFn zaG [(zaa 0)])) (zaf zkW (eFn zao [(zaa 1),(zaa 0)]) (zad .non)) (zaa 0) [0])))
  sNx)
noncomputable def zbn:List S2.D->Sto->Out S2.D:=zaI 1 true zdp
noncomputable def zcA:Fs:=
  (zac (sFz [] (sIf (zaf ltD (zag 1) (zax zeg [(zag 0)])) (zac (sFz [] (zaJ (zaf ixD (zag 0) (zag 1)))) sNx) sNx))
  (zac (sFz [] (sIf (zaf eqD (zag 0) (zee [])) (zac (sFz [] (zaJ (zad (.int 0)))) sNx) sNx))
  (zac (sFz [] (zaJ (zaf zbG (zaf zff (zaf ixD (zag 0) (zaf zkc (zag 1) (zax zeg [(zag 0)]))) (zad (.int 31))) (zag 1))))
  sNx)))
noncomputable def zbX:List S2.D->Sto->Out S2.D:=zaI 2 false zcA
noncomputable def zey:Fs:=
  (zac (sFz [0,1] (zbd 3 false (zaf zkc (zaf zff (zaf zbG (eFn zbX [(zaa 0),(zaa 1)]) (zaf zff (zad (.int 6151)) (zaf zbG (zag 1) (zad (.int 1))))) (zad (.int 40692))) (zad (.int 2147483399)))))
  (zac (sFz [] (zaJ (zaf zkc (zaf zkc (zaf zbG (zaf zff (zag 3) (zag 3)) (zaf zpU (zag 3) (zad (.int 31)))) (zad (.int 2147483629))) (zag 2))))
  sNx))
noncomputable def zaz:List S2.D->Sto->Out S2.D:=zaI 4 false zey
noncomputable def zbx:Fs:=
  (zac (sFz [1,3,5,0] (zbd 6 false (zax zbH [(zb2 1 (.one 0) (zdt (zad (.int 4))) zeY (eFn zaz [(zaa 4),(zaf zbG (zaf zbG (zaf zbG (zag 1) (zaf zff (zad (.int 4)) (zag 3))) (zad (.int 2))) (zag 0)),(zaa 2)]) [1,3,5,0])]))) (zac (sFz [0] (sIf (zaf eqD (eFn zaz [(zaa 0),(zaf zbG (zaf zbG (zag 1) (zad (.int 60))) (zag 5)),(zad (.int 3))]) (zad (.int 0))) (zac (sFz [] (zbd 6 false (zcg [(zaf ixD (zag 6) (zad (.int 0))),(zaf ixD (zag 6) (zad (.int 1))),(zaf ixD (zag 6) (zad (.int 0))),(zaf ixD (zag 6) (zad (.int 1)))]))) sNx) sNx)) (zac (sFz [] (sIf (zaf zoC (zag 6) (zag 4)) (zac (sFz [6] (zif 4 (zaa 6))) sNx) sNx)) sNx)))
noncomputable def zdX:Fs:=
  (zac (sFz [0,1] (zbd 3 false (zaf zbG (zad (.int 2)) (eFn zaz [(zaa 0),(zaa 1),(zad (.int 2))]))))
  (zac (sFz [] (zbd 4 true (zee [])))
  (zac (sFz [0,2] (zgS (.one 5) (zdt (zaf zbG (zad (.int 1)) (eFn zaz [(zaa 0),(zaf zbG (zag 1) (zad (.int 1))),(zaa 2)]))) zbx))
  (zac (sFz [] (zaJ (zax zbH [(zag 4)])))
  sNx))))
noncomputable def zcK:List S2.D->Sto->Out S2.D:=zaI 7 false zdX
noncomputable def zby:Fs:=
  (zac (sFz [0] (zbd 10 false (eFn zaz [(zaa 0),(zaf zbG (zaf zbG (zag 1) (zaf zff (zad (.int 7)) (zag 7))) (zag 9)),(zaf zff (zax zeg [(zag 2)]) (zag 5))]))) (zac (sFz [10] (zif 8 (eIf (zaf ltD (zag 10) (zax zeg [(zag 2)])) (zaa 10) (zad .non)))) sNx))
noncomputable def zc2:Fs:=
  (zac (sFz [] (zbd 8 true (zee []))) (zac (sFz [4] (zgS (.one 9) (zdt (zaa 4)) zby)) (zac (sFz [] (zif 6 (zax zbH [(zag 8)]))) sNx)))
noncomputable def zd0:Fs:=
  (zac (sFz [] (zbd 6 true (zee [])))
  (zac (sFz [3] (zgS (.one 7) (zdt (zaa 3)) zc2))
  (zac (sFz [] (zaJ (zax zbH [(zag 6)])))
  sNx)))
noncomputable def zcM:List S2.D->Sto->Out S2.D:=zaI 11 false zd0
noncomputable def zed:Fs:=
  (zac (sFz [] (zaJ (zgB (eUn (zgj "int") (zag 0)) (eUn zeP (eUn (zgj "bool") (zag 0))))))
  sNx)
noncomputable def zaT:List S2.D->Sto->Out S2.D:=zaI 1 false zed
noncomputable def zcO:Fs:=
  (zac (sFz [1] (zaJ (zgB (eFn zaT [(zaa 1)]) (zc9 leD ltD (zad (.int 0)) (zag 1) (zax zeg [(zag 0)])))))
  sNx)
noncomputable def zbj:List S2.D->Sto->Out S2.D:=zaI 2 false zcO
noncomputable def zew:Fs:=
  (zac (sFz [1] (sIf (eOr (eUn zeP (eFn zaB [(zaa 1),(zad (.int 2)),(zad (.int 2))])) (eOr (eUn zeP (eFn zaT [(zaf ixD (zag 1) (zad (.int 0)))])) (eUn zeP (eFn zaT [(zaf ixD (zag 1) (zad (.int 1)))])))) (zac (sFz [] (zaJ (zad (.bl false)))) sNx) sNx))
  (zac (sFz [0] (zbd 2 false (eFn zb9 [(zaa 0)])))
  (zac (sFz [] (zaJ (zgB (zc9 leD ltD (zad (.int 0)) (zaf ixD (zag 1) (zad (.int 0))) (zaf ixD (zag 2) (zad (.int 0)))) (zc9 leD ltD (zad (.int 0)) (zaf ixD (zag 1) (zad (.int 1))) (zaf ixD (zag 2) (zad (.int 1)))))))
  sNx)))
noncomputable def zay:List S2.D->Sto->Out S2.D:=zaI 3 false zew
noncomputable def zdV:Fs:=
  (zac (sFz [1,2,0,1,2] (sIf (eOr (eUn zeP (eFn zay [(zaa 1),(zaa 2)])) (eUn zeP (eFn zbj [(zaa 0),(eFn zao [(zaa 1),(zaa 2)])]))) (zac (sFz [] (zaJ (zad .non))) sNx) sNx))
  (zac (sFz [1,2] (zaJ (zaf ixD (zaf ixD (zag 0) (eFn zao [(zaa 1),(zaa 2)])) (zag 3))))
  sNx))
noncomputable def zaU:List S2.D->Sto->Out S2.D:=zaI 4 false zdV
noncomputable def zcY:Fs:=
  (zac (sFz [] (zbd 3 false (zcg [(zaf ixD (zag 2) (zad (.int 0))),(zaf zbG (zaf ixD (zag 2) (zad (.int 1))) (zad (.int 1)))])))
  (zac (sFz [0,1,2,0,1,3] (zaJ (zcg [(eFn zaU [(zaa 0),(zaa 1),(zaa 2),(zad (.int 1))]),(eFn zaU [(zaa 0),(zaa 1),(zaa 3),(zad (.int 3))])])))
  sNx))
noncomputable def zb5:List S2.D->Sto->Out S2.D:=zaI 4 false zcY
noncomputable def zcz:Fs:=
  (zac (sFz [] (zbd 3 false (zcg [(zaf zbG (zaf ixD (zag 2) (zad (.int 0))) (zad (.int 1))),(zaf ixD (zag 2) (zad (.int 1)))])))
  (zac (sFz [0,1,2,0,1,3] (zaJ (zcg [(eFn zaU [(zaa 0),(zaa 1),(zaa 2),(zad (.int 2))]),(eFn zaU [(zaa 0),(zaa 1),(zaa 3),(zad (.int 0))])])))
  sNx))
noncomputable def zbL:List S2.D->Sto->Out S2.D:=zaI 4 false zcz
noncomputable def zfj:Fs:=
  (zac (sFz [] (zaJ (zgB (zaf zoC (zad .non) (zag 0)) (zaf neD (zaf ixD (zag 0) (zad (.int 0))) (zaf ixD (zag 0) (zad (.int 1)))))))
  sNx)
noncomputable def zc8:List S2.D->Sto->Out S2.D:=zaI 1 false zfj
noncomputable def zeB:Fs:=
  (zac (sFz [0,1,3] (sIf (eFn zc8 [(eFn zb5 [(zaa 0),(zaa 1),(zaa 3)])]) (zac (sFz [3] (zif 2 (zcg [(zaa 3),(zad (.str "east"))]))) sNx) sNx)) (zac (sFz [0,1,3] (sIf (eFn zc8 [(eFn zbL [(zaa 0),(zaa 1),(zaa 3)])]) (zac (sFz [3] (zif 2 (zcg [(zaa 3),(zad (.str "south"))]))) sNx) sNx)) sNx))
noncomputable def zgu:Fs:=
  (zac (sFz [] (zbd 2 true (zee [])))
  (zac (sFz [1] (zgS (.one 3) (zbe (eFn zaG [(zaa 1)])) zeB))
  (zac (sFz [] (zgE 2))
  sNx)))
noncomputable def zbM:List S2.D->Sto->Out S2.D:=zaI 4 true zgu
noncomputable def zdY:Fs:=
  (zac (sFz [0,1] (zaJ (zaf ixD (zee [(zcg [(zad (.int 1)),(zad (.int 1))]),(zcg [(zad (.int 1)),(zad (.int 2))]),(zcg [(zad (.int 2)),(zad (.int 1))]),(zcg [(zad (.int 2)),(zad (.int 2))]),(zcg [(zad (.int 2)),(zad (.int 2))]),(zcg [(zad (.int 1)),(zad (.int 4))]),(zcg [(zad (.int 2)),(zad (.int 3))]),(zcg [(zad (.int 3)),(zad (.int 2))]),(zcg [(zad (.int 3)),(zad (.int 1))]),(zcg [(zad (.int 2)),(zad (.int 3))])]) (eFn zaz [(zaa 0),(zaa 1),(zad (.int 10))]))))
  sNx)
noncomputable def zcL:List S2.D->Sto->Out S2.D:=zaI 2 false zdY
noncomputable def zbN:Fs:=
  (zac (sFz [0,1] (sIf (eUn zeP (eFn zdJ [(zaa 0),(zaa 1)])) (zac (sFz [] (sRz "Unlike" [(zad (.str "the sizes are unlike"))])) sNx) sNx))
  sNx)
noncomputable def zaS:List S2.D->Sto->Out S2.D:=zaI 2 false zbN
noncomputable def zfi:Fs:=
  (zac (sFz [0,1] (zaJ (zax zbH [(zb2 2 (.tup [0,1]) (zk7 (zaa 0) (zaa 1)) zeY (eIf (zaf zki (zag 1) (zad .non)) (zaa 0) (zaa 1)) [])])))
  sNx)
noncomputable def zc7:List S2.D->Sto->Out S2.D:=zaI 2 false zfi
noncomputable def zne:Fs:=
  (zac (sFz [0,1] (zjS (eFn zaS [(zaa 0),(zaa 1)])))
  (zac (sFz [0,1] (zaJ (zax zbH [(zb2 2 (.tup [0,1]) (zk7 (zaa 0) (zaa 1)) zeY (eFn zc7 [(zaa 0),(zaa 1)]) [])])))
  sNx))
noncomputable def zjX:List S2.D->Sto->Out S2.D:=zaI 2 false zne
noncomputable def zkz:Fs:=
  (zac (sFz [1,2] (zbd 1 false (eFn zjX [(zaa 1),(zaa 2)]))) sNx)
noncomputable def znd:Fs:=
  (zac (sFz [] (zbd 1 false (zaf ixD (zag 0) (zad (.int 0)))))
  (zac (sFz [] (zgS (.one 2) (zbe (eSl (zag 0) (some (zad (.int 1))) none)) zkz))
  (zac (sFz [1] (zaJ (zaa 1)))
  sNx)))
noncomputable def zio:List S2.D->Sto->Out S2.D:=zaI 3 false znd
noncomputable def zer:Fs:=
  (zac (sFz [0,1] (zaJ (zax zbH [(zb2 2 (.tup [0,1]) (zk7 (zaa 0) (zaa 1)) zeY (eIf (zaf zki (zag 1) (zad .non)) (zaa 0) (zad .non)) [])])))
  sNx)
noncomputable def zcv:List S2.D->Sto->Out S2.D:=zaI 2 false zer
noncomputable def zjo:Fs:=
  (zac (sFz [0,1] (zjS (eFn zaS [(zaa 0),(zaa 1)])))
  (zac (sFz [0,1] (zaJ (zax zbH [(zb2 2 (.tup [0,1]) (zk7 (zaa 0) (zaa 1)) zeY (eFn zcv [(zaa 0),(zaa 1)]) [])])))
  sNx))
noncomputable def zht:List S2.D->Sto->Out S2.D:=zaI 2 false zjo
noncomputable def ze4:Fs:=
  (zac (sFz [2,3] (zbd 2 false (eFn zht [(zaa 2),(zaa 3)]))) sNx)
noncomputable def zdo:Fs:=
  (zac (sFz [0] (zbd 2 false (zaa 0)))
  (zac (sFz [1] (zgS (.one 3) (zbe (zaa 1)) ze4))
  (zac (sFz [2] (zaJ (zaa 2)))
  sNx)))
noncomputable def zbV:List S2.D->Sto->Out S2.D:=zaI 4 false zdo
noncomputable def zet:Fs:=
  (zac (sFz [0,0] (zaJ (zb2 2 (.tup [0,1]) (zlb (zaa 0)) zeY (eFn zbV [(zaa 1),(eSl (zag 2) (some (zaf zbG (zag 0) (zad (.int 1)))) none)]) [0])))
  sNx)
noncomputable def zcw:List S2.D->Sto->Out S2.D:=zaI 1 true zet
noncomputable def zhL:Fs:=
  (zac (sFz [0,0] (zaJ (zb2 2 (.tup [0,1]) (zk7 (zaa 0) (eFn zcw [(zaa 0)])) zeY (zaf zlm (zax zeg [(eFn zbn [(zaa 0)])]) (zax zeg [(eFn zbn [(zaa 1)])])) [])))
  sNx)
noncomputable def zd4:List S2.D->Sto->Out S2.D:=zaI 1 true zhL
noncomputable def zeX:Fs:=
  (zac (sFz [] (zaJ (zcg [(zaf zbG (zaf zff (zad (.int 3)) (zag 0)) (zag 1)),(zaf zbG (zaf zff (zad (.int 3)) (zag 1)) (zag 2)),(zaf zbG (zaf zff (zad (.int 3)) (zag 3)) (zag 2)),(zaf zbG (zaf zff (zad (.int 3)) (zag 0)) (zag 3))])))
  sNx)
noncomputable def zeJ:List S2.D->Sto->Out S2.D:=zaI 4 false zeX
noncomputable def zdW:Fs:=
  (zac (sFz [] (zaJ (zaf zbG (zaf zbG (zaf zbG (zaf zff (zad (.int 8)) (zag 0)) (zaf zff (zad (.int 4)) (zag 1))) (zaf zff (zad (.int 2)) (zag 2))) (zag 3))))
  sNx)
noncomputable def zdL:List S2.D->Sto->Out S2.D:=zaI 4 false zdW
noncomputable def zfw:Fs:=
  (zac (sFz [] (zaJ (zcg [(zaf zkc (zaf zpU (zag 0) (zad (.int 8))) (zad (.int 2))),(zaf zkc (zaf zpU (zag 0) (zad (.int 4))) (zad (.int 2))),(zaf zkc (zaf zpU (zag 0) (zad (.int 2))) (zad (.int 2))),(zaf zkc (zag 0) (zad (.int 2)))])))
  sNx)
noncomputable def zcJ:List S2.D->Sto->Out S2.D:=zaI 1 false zfw
noncomputable def ziI:Fs:=
  (zac (sFz [0] (zbd 1 false (eFn zcJ [(zaa 0)])))
  (zac (sFz [] (zaJ (eFn zeJ [(zaf ixD (zag 1) (zad (.int 0))),(zaf ixD (zag 1) (zad (.int 1))),(zaf ixD (zag 1) (zad (.int 2))),(zaf ixD (zag 1) (zad (.int 3)))])))
  sNx))
noncomputable def zin:List S2.D->Sto->Out S2.D:=zaI 2 false ziI
noncomputable def zfx:Fs:=
  (zac (sFz [] (zaJ (zax zbH [(zb2 1 (.one 0) (zdt (zad (.int 16))) zeY (eFn zin [(zaa 0)]) [])])))
  sNx)
noncomputable def zdK:List S2.D->Sto->Out S2.D:=zaI 0 false zfx
noncomputable def zdD:Fs:=
  (zac (sFz [] (zaJ (eFn zdL [(zaf ixD (zag 0) (zag 2)),(zaf ixD (zag 0) (zaf zbG (zag 2) (zad (.int 1)))),(zaf ixD (zag 1) (zaf zbG (zag 2) (zad (.int 1)))),(zaf ixD (zag 1) (zag 2))])))
  sNx)
noncomputable def zdC:List S2.D->Sto->Out S2.D:=zaI 3 false zdD
noncomputable def zeU:Fs:=
  (zac (sFz [1,0] (zaJ (zax zbH [(zb2 1 (.one 0) (zdt (zaf zlm (zax zeg [(zag 0)]) (zad (.int 1)))) zeY (eFn zdC [(zaa 2),(zaa 1),(zaa 0)]) [1,0])])))
  sNx)
noncomputable def zeG:List S2.D->Sto->Out S2.D:=zaI 2 false zeU
noncomputable def zg6:Fs:=
  (zac (sFz [0] (zaJ (zax zbH [(zb2 2 (.tup [0,1]) (zk7 (zaa 0) (eSl (zag 0) (some (zad (.int 1))) none)) zeY (eFn zeG [(zaa 0),(zaa 1)]) [])])))
  sNx)
noncomputable def zd5:List S2.D->Sto->Out S2.D:=zaI 1 false zg6
noncomputable def zbC:Fs:=
  (zac (sFz [1,5,0] (zif 4 (zax zbH [(zb2 1 (.one 0) (zdt (zaf zbG (zag 3) (zad (.int 1)))) zeY (eFn zaz [(zaa 3),(zaf zbG (zaf zbG (zag 1) (zaf zff (zad (.int 8)) (zag 2))) (zag 0)),(zad (.int 2))]) [1,5,0])]))) sNx)
noncomputable def zc0:Fs:=
  (zac (sFz [] (zbd 4 true (zee [])))
  (zac (sFz [] (zgS (.one 5) (zdt (zaf zbG (zag 2) (zad (.int 1)))) zbC))
  (zac (sFz [] (zaJ (zax zbH [(zag 4)])))
  sNx)))
noncomputable def zbv:List S2.D->Sto->Out S2.D:=zaI 6 false zc0
noncomputable def zjp:Fs:=
  (zac (sFz [] (zaJ (eOr (zaf zki (zag 0) (zad .non)) (zaf eqD (zag 0) (zag 1)))))
  sNx)
noncomputable def zf4:List S2.D->Sto->Out S2.D:=zaI 2 false zjp
noncomputable def zcD:Fs:=
  (zac (sFz [1] (zfb "Ways" "tiles" (zaa 0) (zaa 1)))
  (zac (sFz [2,2] (zfb "Ways" "ground" (zaa 0) (zb2 1 (.one 0) (zbe (eFn zaG [(zaa 2)])) zeY (eFn zao [(zaa 1),(zaa 0)]) [2])))
  (zac (sFz [2] (zfb "Ways" "size" (zaa 0) (eFn zb9 [(zaa 2)])))
  (zac (sFz [3] (zfb "Ways" "is_round" (zaa 0) (zaa 3)))
  (zac (sFz [] (zkO "Ways" "known" 0))
  sNx)))))
noncomputable def zaZ:List S2.D->Sto->Out S2.D:=zaI 4 false zcD
noncomputable def zb0:Fs:=
  (zac (sFz [] (zaJ (zaf zff (zcg [(zad .non)]) (zaf zbG (zaf ixD (ze6 "Ways" "size" (zaa 0)) (zad (.int 1))) (zad (.int 2))))))
  sNx)
noncomputable def zaX:List S2.D->Sto->Out S2.D:=zaI 1 false zb0
noncomputable def zcC:Fs:=
  (zac (sFz [] (zaJ (zaf eqD (zaf zkc (zaf zbG (zag 1) (zad (.int 1))) (zaf ixD (ze6 "Ways" "size" (zaa 0)) (zad (.int 1)))) (zad (.int 0)))))
  sNx)
noncomputable def zaY:List S2.D->Sto->Out S2.D:=zaI 2 false zcC
noncomputable def za5:Fs:=
  (zac (sFz [] (zaJ (eIf (zaf eqD (zaf zkc (zag 1) (zaf ixD (ze6 "Ways" "size" (zaa 0)) (zad (.int 1)))) (zad (.int 0))) (zaf ixD (zag 3) (zad (.int 3))) (zaf ixD (zag 2) (eUn zrf (zad (.int 1)))))))
  sNx)
noncomputable def zat:List S2.D->Sto->Out S2.D:=zaI 4 false za5
noncomputable def zbO:Fs:=
  (zac (sFz [1] (zbd 4 false (zaE "Ways" "ends_row" zaY (zaa 0) [(zaa 1)])))
  (zac (sFz [] (zbd 5 false (zaf geD (zaf zbG (zag 1) (zaf ixD (ze6 "Ways" "size" (zaa 0)) (zad (.int 1)))) (zax zeg [(ze6 "Ways" "ground" (zaa 0))]))))
  (zac (sFz [4] (zbd 6 false (eIf (zaa 4) (zad .non) (zaf ixD (zag 3) (zad (.int 1))))))
  (zac (sFz [5] (zbd 7 false (eIf (zaa 5) (zad .non) (zaf ixD (zag 3) (zad (.int 2))))))
  (zac (sFz [4,1,2,3] (zbd 8 false (eIf (zgB (ze6 "Ways" "is_round" (zaa 0)) (eUn zeP (zaa 4))) (zaE "Ways" "colour_round" zat (zaa 0) [(zaa 1),(zaa 2),(zaa 3)]) (zad .non))))
  (zac (sFz [6,7,8] (zaJ (zaf zbG (zaf zbG (zcg [(zaa 6)]) (eSl (zag 2) (some (zad (.int 2))) (some (eUn zrf (zad (.int 1)))))) (zcg [(zaa 7),(zaa 8)]))))
  sNx))))))
noncomputable def zbf:List S2.D->Sto->Out S2.D:=zaI 9 false zbO
noncomputable def zbg:Fs:=
  (zac (sFz [] (zbd 2 false (zaf ixD (ze6 "Ways" "ground" (zaa 0)) (zag 1))))
  (zac (sFz [] (sIf (zaf zki (zag 2) (zad .non)) (zac (sFz [] (zaJ (eUn lrD (zax zeg [(ze6 "Ways" "tiles" (zaa 0))])))) sNx) sNx))
  (zac (sFz [2,2] (zaJ (eIf (eFn zbj [(ze6 "Ways" "tiles" (zaa 0)),(zaa 2)]) (zee [(zaa 2)]) (zee []))))
  sNx)))
noncomputable def zaK:List S2.D->Sto->Out S2.D:=zaI 3 false zbg
noncomputable def zbp:Fs:=
  (zac (sFz [1] (sIf (eOr (eUn zeP (ze6 "Ways" "is_round" (zaa 0))) (eUn zeP (zaE "Ways" "ends_row" zaY (zaa 0) [(zaa 1)]))) (zac (sFz [] (zaJ (zad (.bl true)))) sNx) sNx))
  (zac (sFz [1,2,3] (zaJ (zaf eqD (zaf ixD (zag 3) (zad (.int 1))) (zaE "Ways" "colour_round" zat (zaa 0) [(zaa 1),(zaa 2),(zaa 3)]))))
  sNx))
noncomputable def zaW:List S2.D->Sto->Out S2.D:=zaI 4 false zbp
noncomputable def zez:Fs:=
  (zac (sFz [] (sIf (eOr (eUn zeP (eFn zf4 [(zaf ixD (zag 2) (zad (.int 0))),(zaf ixD (zag 3) (zad (.int 3)))])) (eUn zeP (eFn zf4 [(zaf ixD (zag 2) (zad (.int 1))),(zaf ixD (zag 3) (zad (.int 0)))]))) (zac (sFz [] (zaJ (zad (.bl false)))) sNx) sNx))
  (zac (sFz [1,2,3] (zaJ (zaE "Ways" "fits_round" zaW (zaa 0) [(zaa 1),(zaa 2),(zaa 3)])))
  sNx))
noncomputable def zdd:List S2.D->Sto->Out S2.D:=zaI 4 false zez
noncomputable def zbc:Fs:=
  (zac (sFz [] (zbd 5 false (zaf ixD (ze6 "Ways" "tiles" (zaa 0)) (zag 4)))) (zac (sFz [1,2,5] (sIf (zaE "Ways" "fits" zdd (zaa 0) [(zaa 1),(zaa 2),(zaa 5)]) (zac (sFz [4,1,2,5] (zif 3 (zcg [(zaa 4),(zaE "Ways" "seam_behind" zbf (zaa 0) [(zaa 1),(zaa 2),(zaa 5)])]))) sNx) sNx)) sNx))
noncomputable def zc1:Fs:=
  (zac (sFz [] (zbd 3 true (zee [])))
  (zac (sFz [1] (zgS (.one 4) (zbe (zaE "Ways" "numbers_for" zaK (zaa 0) [(zaa 1)])) zbc))
  (zac (sFz [] (zgE 3))
  sNx)))
noncomputable def zbw:List S2.D->Sto->Out S2.D:=zaI 6 true zc1
noncomputable def zak(rec_:List S2.D->Sto->Out S2.D):Fs:=
  (zac (sFz [] (sIf (zaf eqD (zag 1) (zax zeg [(ze6 "Ways" "ground" (zaa 0))])) (zac (sFz [] (zaJ (zad (.int 1)))) sNx) sNx))
  (zac (sFz [1,2] (zbd 3 false (zcg [(zaa 1),(zaa 2)])))
  (zac (sFz [] (sIf (zpS "Ways" "known" (zaa 3) (zaa 0)) (zac (sFz [1,2,0,1] (zkN "Ways" "known" (zaa 0) 3 (zax zsx [(zb2 1 (.one 0) (zbe (zaE "Ways" "choices" zbw (zaa 0) [(zaa 1),(zaa 2)])) zeY (zaE "Ways" "count_from" rec_ (zaa 1) [(zaf zbG (zag 2) (zad (.int 1))),(zaf ixD (zag 0) (zad (.int 1)))]) [0,1])]))) sNx) sNx))
  (zac (sFz [] (zaJ (zla "Ways" "known" (zaa 0) 3)))
  sNx))))
noncomputable def zaA:List S2.D->Sto->Out S2.D:=zn6 4 false zak 40
noncomputable def zcf:Fs:=
  (zac (sFz [] (zaJ (zaE "Ways" "count_from" zaA (zaa 0) [(zad (.int 0)),(zaE "Ways" "first_seam" zaX (zaa 0) [])])))
  sNx)
noncomputable def za9:List S2.D->Sto->Out S2.D:=zaI 1 false zcf
noncomputable def zdr:Fs:=
  (zac (sFz [0,1] (zaJ (zaE "Ways" "count_all" za9 (eMk "Ways" [(.bl false)] zaZ [(zaa 0),(zaa 1)]) [])))
  sNx)
noncomputable def za2:List S2.D->Sto->Out S2.D:=zaI 2 false zdr
noncomputable def zgt:Fs:=
  (zac (sFz [0,1] (zaJ (zax zbH [(zb2 1 (.one 0) (zdt (zaf ixD (zag 1) (zad (.int 0)))) zeY (zax zbH [(eSl (zag 1) (some (zaf zff (zag 0) (zaf ixD (zag 2) (zad (.int 1))))) (some (zaf zff (zaf zbG (zag 0) (zad (.int 1))) (zaf ixD (zag 2) (zad (.int 1))))))]) [0,1])])))
  sNx)
noncomputable def zeH:List S2.D->Sto->Out S2.D:=zaI 2 false zgt
noncomputable def za8:Fs:=
  (zac (sFz [] (zbd 7 false (zaE "Ways" "count_from" zaA (zaa 0) [(zaf zbG (zag 5) (zad (.int 1))),(zaf ixD (zag 6) (zad (.int 1)))]))) (zac (sFz [] (sIf (zaf ltD (zag 3) (zag 7)) (zac (sFz [] (zif 2 (zaf ixD (zag 6) (zad (.int 0))))) (zac (sFz [] (zbd 4 false (zaf ixD (zag 6) (zad (.int 1))))) (zac (sFz [] sBk) sNx))) sNx)) (zac (sFz [] (zr3 3 (· - ·) (zaa 7))) sNx)))
noncomputable def zbF:Fs:=
  (zac (sFz [5,4] (zgS (.one 6) (zbe (zaE "Ways" "choices" zbw (zaa 0) [(zaa 5),(zaa 4)])) za8)) sNx)
noncomputable def zbZ:Fs:=
  (zac (sFz [] (zbd 2 true (zee [])))
  (zac (sFz [1] (zbd 3 false (zaa 1)))
  (zac (sFz [] (zbd 4 false (zaE "Ways" "first_seam" zaX (zaa 0) [])))
  (zac (sFz [] (zgS (.one 5) (zdt (zax zeg [(ze6 "Ways" "ground" (zaa 0))])) zbF))
  (zac (sFz [] (zgE 2))
  sNx)))))
noncomputable def zbo:List S2.D->Sto->Out S2.D:=zaI 8 true zbZ
noncomputable def zcB:Fs:=
  (zac (sFz [] (sIf (eUn zeP (zc9 leD ltD (zad (.int 0)) (zag 1) (zaE "Ways" "count_all" za9 (zaa 0) []))) (zac (sFz [] (sRz "NoFill" [(zad (.str "the floor has no fill with this number"))])) sNx) sNx))
  (zac (sFz [1] (zaJ (eFn zeH [(zaE "Ways" "numbers_by" zbo (zaa 0) [(zaa 1)]),(ze6 "Ways" "size" (zaa 0))])))
  sNx))
noncomputable def zbk:List S2.D->Sto->Out S2.D:=zaI 2 false zcB
noncomputable def zeV:Fs:=
  (zac (sFz [0,1] (zaJ (eOr (zaf zki (zag 1) (zad .non)) (eFn zbj [(zaa 0),(zaa 1)]))))
  sNx)
noncomputable def zdI:List S2.D->Sto->Out S2.D:=zaI 2 false zeV
noncomputable def zbB:Fs:=
  (zac (sFz [0,1] (sIf (eUn zeP (eFn zay [(zaa 0),(zaa 1)])) (zac (sFz [] (sRz "NoPlace" [(zad (.str "there is no such place"))])) sNx) sNx))
  sNx)
noncomputable def zaq:List S2.D->Sto->Out S2.D:=zaI 2 false zbB
noncomputable def zdn:Fs:=
  (zac (sFz [] (zbd 3 false (zaf ixD (zag 0) (zaf ixD (zag 1) (zad (.int 0))))))
  (zac (sFz [2] (zbd 4 false (zaf zbG (zaf zbG (eSl (zag 3) none (some (zaf ixD (zag 1) (zad (.int 1))))) (zcg [(zaa 2)])) (eSl (zag 3) (some (zaf zbG (zaf ixD (zag 1) (zad (.int 1))) (zad (.int 1)))) none))))
  (zac (sFz [4] (zaJ (zaf zbG (zaf zbG (eSl (zag 0) none (some (zaf ixD (zag 1) (zad (.int 0))))) (zcg [(zaa 4)])) (eSl (zag 0) (some (zaf zbG (zaf ixD (zag 1) (zad (.int 0))) (zad (.int 1)))) none))))
  sNx)))
noncomputable def zcl:List S2.D->Sto->Out S2.D:=zaI 5 false zdn
noncomputable def zdm:Fs:=
  (zac (sFz [1,2] (zjS (eFn zaq [(zaa 1),(zaa 2)])))
  (zac (sFz [0,3] (sIf (eUn zeP (eFn zdI [(zaa 0),(zaa 3)])) (zac (sFz [] (sRz "NoTile" [(zad (.str "the set has no such number"))])) sNx) sNx))
  (zac (sFz [1,2,3] (zaJ (eFn zcl [(zaa 1),(zaa 2),(zaa 3)])))
  sNx)))
noncomputable def zaF:List S2.D->Sto->Out S2.D:=zaI 4 false zdm
noncomputable def zgr:Fs:=
  (zac (sFz [0,1] (zjS (eFn zaq [(zaa 0),(zaa 1)])))
  (zac (sFz [0,1] (zaJ (eFn zao [(zaa 0),(zaa 1)])))
  sNx))
noncomputable def zeF:List S2.D->Sto->Out S2.D:=zaI 2 false zgr
noncomputable def znf:Fs:=
  (zac (sFz [2] (sIf (eUn zeP (eFn zaT [(zaa 2)])) (zac (sFz [] (sRz "NoFill" [(zad (.str "this is no number of a fill"))])) sNx) sNx))
  (zac (sFz [0,1,2] (zaJ (zaE "Ways" "whole_by" zbk (eMk "Ways" [(.bl false)] zaZ [(zaa 0),(zaa 1)]) [(zaa 2)])))
  sNx))
noncomputable def zjY:List S2.D->Sto->Out S2.D:=zaI 3 false znf
noncomputable def zbS:Fs:=
  (zac (sFz [] (zbd 6 false (eOr (zaf zki (zag 3) (zad .non)) (zaf eqD (zag 3) (zag 5))))) (zac (sFz [6,0,0,1,2,5] (zif 4 (eIf (zaa 6) (eFn za2 [(zaa 0),(eFn zaF [(zaa 0),(zaa 1),(zaa 2),(zaa 5)])]) (zad (.int 0))))) sNx))
noncomputable def zex:Fs:=
  (zac (sFz [1,2] (zbd 3 false (eFn zeF [(zaa 1),(zaa 2)])))
  (zac (sFz [] (zbd 4 true (zee [])))
  (zac (sFz [] (zgS (.one 5) (zdt (zax zeg [(zag 0)])) zbS))
  (zac (sFz [] (zgE 4))
  sNx))))
noncomputable def zbW:List S2.D->Sto->Out S2.D:=zaI 7 true zex
noncomputable def zev:Fs:=
  (zac (sFz [0,1,2] (zaJ (zb2 2 (.tup [0,1]) (zlb (eFn zbW [(zaa 0),(zaa 1),(zaa 2)])) (zaf gtD (zag 1) (zad (.int 0))) (zaa 0) [])))
  sNx)
noncomputable def zcx:List S2.D->Sto->Out S2.D:=zaI 3 true zev
noncomputable def zds:Fs:=
  (zac (sFz [0,0] (zaJ (zb2 1 (.one 0) (zbe (eFn zaG [(zaa 0)])) (zaf zki (eFn zao [(zaa 1),(zaa 0)]) (zad .non)) (zaa 0) [0])))
  sNx)
noncomputable def zcm:List S2.D->Sto->Out S2.D:=zaI 1 true zds
noncomputable def zef:Fs:=
  (zac (sFz [3,5] (zbd 6 false (eFn zao [(zaa 3),(zaa 5)]))) (zac (sFz [0,0,1,5,6] (sIf (zaf eqD (eFn za2 [(zaa 0),(eFn zaF [(zaa 0),(zaa 1),(zaa 5),(zaa 6)])]) (zag 2)) (zac (sFz [5,6] (zif 4 (zcg [(zaa 5),(zaa 6)]))) sNx) sNx)) sNx))
noncomputable def zfL:Fs:=
  (zac (sFz [0,1] (zbd 2 false (eFn za2 [(zaa 0),(zaa 1)])))
  (zac (sFz [] (sIf (zaf eqD (zag 2) (zad (.int 0))) (zac (sFz [] (zaJ (zee []))) sNx) sNx))
  (zac (sFz [0,1] (zbd 3 false (eFn zjY [(zaa 0),(zaa 1),(zad (.int 0))])))
  (zac (sFz [] (zbd 4 true (zee [])))
  (zac (sFz [1] (zgS (.one 5) (zbe (eFn zcm [(zaa 1)])) zef))
  (zac (sFz [] (zgE 4))
  sNx))))))
noncomputable def zeI:List S2.D->Sto->Out S2.D:=zaI 7 true zfL
noncomputable def zcX:Fs:=
  (zac (sFz [0] (zbd 2 false (eFn zd5 [(zaa 0)])))
  (zac (sFz [] (zbd 3 false (zaf ixD (zag 1) (zad (.int 0)))))
  (zac (sFz [] (zbd 4 false (zaf ixD (zag 1) (zad (.int 1)))))
  (zac (sFz [4,3,3,4] (zbd 5 true (zee [(zcg [(zaf zlm (zag 3) (zad (.int 1))),(zaf zlm (zag 4) (zad (.int 1)))]),(zcg [(zaf zlm (zag 3) (zad (.int 1))),(zaa 4)]),(zcg [(zaa 3),(zaf zlm (zag 4) (zad (.int 1)))]),(zcg [(zaa 3),(zaa 4)])])))
  (zac (sFz [5,2] (zaJ (zb2 1 (.one 0) (zbe (zaa 5)) (eFn zay [(zaa 1),(zaa 0)]) (zaa 0) [2])))
  sNx)))))
noncomputable def zb4:List S2.D->Sto->Out S2.D:=zaI 6 true zcX
noncomputable def Fo.seq(b:Fs):Fo->Fo|.nx I S'=>b I S'|o=>o
def zv9(a b:Fs)(ρ:Env):Out D->Fo|.ok d S'=>(match isB d with|some true=>a ρ S'|some false=>b ρ S'|none=>.bad)|.exc x S'=>.ex x ρ S'|.bad=>.bad
noncomputable def zyl(i:Nat)(o:Bool)(ρ:Env):Out D->Fo|.ok d S'=>.nx (ρ.set i (some (o,d))) S'|.exc c S'=>.ex c ρ S'|.bad=>.bad
noncomputable def zwb(ρ:Env):Out D->Fo|.ok _ S'=>.nx ρ S'|.exc c S'=>.ex c ρ S'|.bad=>.bad
noncomputable def zx9(ρ:Env):Out D->Fo|.ok d S'=>.rt d S'|.exc c S'=>.ex c ρ S'|.bad=>.bad
noncomputable def zuh(S:Sto):Option (Option (Bool×D))->Fo|some (some (true,d))=>.rt d S|_=>.bad
def zru(i:Nat)(ρ:Env)(l:List D):Out D->Fo
 |.ok d S'=>if zbh l.length then .nx (ρ.set i (some (true,.lst (l++[d])))) S' else .bad
 |.exc c S'=>.ex c ρ S'|.bad=>.bad
noncomputable def zym(i:Nat)(f:Fe)(ρ:Env)(S:Sto):Option (Option (Bool×D))->Fo|some (some (true,.lst l))=>zru i ρ l (f ρ S)|_=>.bad
def zrq(i:Nat)(ρ:Env)(l:List D):Out D->Fo
 |.ok (.lst k) S'=>if zbh (l.length+k.length)then .nx (ρ.set i (some (true,.lst (l++k)))) S' else .bad
 |.ok _ _=>.bad|.exc c S'=>.ex c ρ S'|.bad=>.bad
noncomputable def zyh(i:Nat)(f:Fe)(ρ:Env)(S:Sto):Option (Option (Bool×D))->Fo|some (some (true,.lst l))=>zrq i ρ l (f ρ S)|_=>.bad
noncomputable def zro(i j:Nat)(J I:Bool)(d1:D)(ρ:Env):Out D->Fo|.ok d2 S2=>.nx ((ρ.set i (some (J,d1))).set j (some (I,d2))) S2|.exc c S'=>.ex c ρ S'|.bad=>.bad
noncomputable def zya(i j:Nat)(J I:Bool)(g:Fe)(ρ:Env):Out D->Fo|.ok d1 S1=>zro i j J I d1 ρ (g ρ S1)|.exc c S'=>.ex c ρ S'|.bad=>.bad
noncomputable def zv8(S:Sto):Option Env->Fo|some I=>.nx I S|none=>.bad
def zrt(t:Tg)(ρ:Env):Out D->Fo|.ok d S'=>zv8 S' (t.put ρ d)|.exc c S'=>.ex c ρ S'|.bad=>.bad
noncomputable def zyf(t:Tg)(a:Fs)(ρ:Env):Out (List D)->Fo|.ok ds S'=>zeq t a ds ρ S'|.exc c S'=>.ex c ρ S'|.bad=>.bad
noncomputable def zx7(S:Sto):Option (Option (Bool×D))->Out D|some (~~~d)=>.ok d S|_=>.bad
noncomputable def zyj(S:Sto):Option (Option (Bool×D))->Out D|some (some (_,d))=>.ok d S|_=>.bad
def kUn(u:D->Option D):Out D->Out D|.ok a S=>Out.of (u a) S|.exc c S=>.exc c S|.bad=>.bad
def zoP(u:D->D->Option D)(a:D):Out D->Out D|.ok b S=>Out.of (u a b) S|.exc c S=>.exc c S|.bad=>.bad
noncomputable def zyk(u:D->D->Option D)(g:Fe)(ρ:Env):Out D->Out D|.ok a S=>zoP u a (g ρ S)|.exc c S=>.exc c S|.bad=>.bad
def kIf(f g:Fe)(ρ:Env):Out D->Out D|.ok d S1=>(match isB d with|some true=>f ρ S1|some false=>g ρ S1|none=>.bad)|.exc c S=>.exc c S|.bad=>.bad
def zwc(g:Fe)(ρ:Env):Out D->Out D|.ok d S1=>(match isB d with|some true=>g ρ S1|some false=>.ok (.bl false) S1|none=>.bad)|.exc c S=>.exc c S|.bad=>.bad
def kOr(g:Fe)(ρ:Env):Out D->Out D|.ok d S1=>(match isB d with|some true=>.ok (.bl true) S1|some false=>g ρ S1|none=>.bad)|.exc c S=>.exc c S|.bad=>.bad
noncomputable def zkg(d:D):Out (List D)->Out (List D)|.ok ds S=>.ok (d::ds) S|.exc c S=>.exc c S|.bad=>.bad
def zrr(fs:List Fe)(ρ:Env):Out D->Out (List D)|.ok d S=>zkg d (zap fs ρ S)|.exc c S=>.exc c S|.bad=>.bad
def zx8:Out (List D)->Out D|.ok ds S=>if zbh ds.length then .ok (.tup ds) S else .bad|.exc c S=>.exc c S|.bad=>.bad
def zyc:Out (List D)->Out D|.ok ds S=>if zbh ds.length then .ok (.lst ds) S else .bad|.exc c S=>.exc c S|.bad=>.bad
def zul(u:List D->Option D):Out (List D)->Out D|.ok ds S=>Out.of (u ds) S|.exc c S=>.exc c S|.bad=>.bad
noncomputable def kFn(r:List D->Sto->Out D):Out (List D)->Out D|.ok ds S=>r ds S|.exc c S=>.exc c S|.bad=>.bad
def zgf(v:D->D->Option D)(b:D):Out D->Out D|.ok c S=>Out.of (v b c) S|.exc c S=>.exc c S|.bad=>.bad
def zge(v:D->D->Option D)(h:Fe)(ρ:Env)(b:D)(S:Sto):Option D->Out D|some d=>(match isB d with|some true=>zgf v b (h ρ S)|some false=>.ok (.bl false) S|none=>.bad)|none=>.bad
noncomputable def zhD(u v:D->D->Option D)(h:Fe)(ρ:Env)(a:D):Out D->Out D|.ok b S=>zge v h ρ b S (u a b)|.exc c S=>.exc c S|.bad=>.bad
noncomputable def zpK(u v:D->D->Option D)(g h:Fe)(ρ:Env):Out D->Out D|.ok a S=>zhD u v h ρ a (g ρ S)|.exc c S=>.exc c S|.bad=>.bad
noncomputable def zyd:Out D->Out (Option Int)|.ok (.int i) S=>.ok (some i) S|.ok _ _=>.bad|.exc c S=>.exc c S|.bad=>.bad
def zu3(d:D)(l:Option Int):Out (Option Int)->Out D|.ok u S=>Out.of (slD d l u) S|.exc c S=>.exc c S|.bad=>.bad
def zu4(d:D)(u:Option Fe)(ρ:Env):Out (Option Int)->Out D|.ok l S=>zu3 d l (zdG u ρ S)|.exc c S=>.exc c S|.bad=>.bad
def kSl(l u:Option Fe)(ρ:Env):Out D->Out D|.ok d S=>zu4 d u ρ (zdG l ρ S)|.exc c S=>.exc c S|.bad=>.bad
noncomputable def zpJ:Out D->Out (List D)|.ok (.lst l) S=>.ok l S|.ok (.tup l) S=>.ok l S|.ok (.scr l) S=>.ok (l.map D.int) S|.ok _ _=>.bad|.exc c S=>.exc c S|.bad=>.bad
def zuk:Out (List D)->Out (List D)|.ok [.lst l] S=>.ok (zd1 l) S|.ok [.tup l] S=>.ok (zd1 l) S|.ok _ _=>.bad|.exc c S=>.exc c S|.bad=>.bad
def zv6:Out (List D)->Out (List D)|.ok ds S1=>(match zsc ds with|some l=>.ok l S1|none=>.bad)|.exc c S=>.exc c S|.bad=>.bad
def zug:Out (List D)->Out (List D)|.ok ds S1=>(match ds with|[.int j]=>if -1000000<=j/\j<=1000000 then .ok (zaw 0 j) S1 else .bad|_=>.bad)|.exc c S=>.exc c S|.bad=>.bad
def zmU:Out (List D)->Out D|.ok ys S2=>if zbh ys.length then .ok (.lst ys) S2 else .bad|_=>.bad
def zrs(tg:Tg)(c elt:Fe)(ag:Env):Out (List D)->Out D|.ok ds S1=>zmU (zbE tg c elt ag ds S1)|.exc c S=>.exc c S|.bad=>.bad
noncomputable def zyi:Option (Option (Bool×D))->Option (Bool×D)|some (~~~d)=>(~~~d)|_=>none
noncomputable def zwa(ρ:Env)(i:Nat):Option (Option (Bool×D))->Env|some (some (true,d))=>ρ.set i (~~~d)|_=>ρ
noncomputable def zu5(own:Bool):Fo->Out D|.rt d S'=>.ok d S'|.nx _ S'=>if own then .bad else .ok .non S'|.ex c _ S'=>.exc c S'|_=>.bad
def kRz(c:Str)(ρ:Env):Out (List D)->Fo|.ok ds S'=>if zbh ds.length then .ex c ρ S' else .bad|.exc x S'=>.ex x ρ S'|.bad=>.bad
section
variable{ρ:Env}{S:Sto}{f g h k c:Fe}{a b:Fs}
@[simp] def zwN:zac a b ρ S=(a ρ S).seq b:=by
 show(match a ρ S with|.nx c S'=>b c S'|o=>o)=_
 cases a ρ S<;>rfl
@[simp] def zxG:(Fo.nx ρ S).seq b=b ρ S:=(rfl)
@[simp] def zxF:(Fo.rt d S).seq b=.rt d S:=(rfl)
@[simp] def zxE:(Fo.bk ρ S).seq b=.bk ρ S:=(rfl)
@[simp] def zxD:(Fo.ex x ρ S).seq b=.ex x ρ S:=(rfl)
def zi4(h:ρ[i]?=some (some (o,zfM ps))):zhj i ρ=some (o,ps):=by
 unfold zhj;rw[h];show(psX (pdD ps)).map _=_;rw[zj0];rfl
def zjQ(h:ρ[i]?=some (~~~pD p)):zfR i ρ=some p:=by
 unfold zfR;rw[h];rfl
def zrI(h:ρ[i]?=some (~~~pD p)):zg8 i ρ S=.ok (zfM [p]) S:=by
 unfold zg8;rw[zjQ h]
def zt3(h:ρ[i]?=some (some (o,zfM ps)))(hf:f ρ S=.ok (pD p) S1):ziL i f ρ S=.ok (.bl (!decide (p∈ps))) S1:=by
 unfold ziL;rw[zi4 h];dsimp only;rw[hf];rfl
def zti(h:ρ[i]?=some (some (true,zfM ps)))(U:ρ[j]?=some (~~~pD p))(I:p ∉ ps)(J:ps.length<=100000):zkM i j ρ S=.nx (ρ.set i (some (true,zfM (ps++[p])))) S:=by
 unfold zkM;rw[zi4 h,zjQ U];dsimp only;rw[if_pos ⟨I,J⟩]
def zsN(h:ρ[i]?=some (some (o,zfM ps)))(I:zpD ps=true):zk8 i ρ S=.ok (.lst ((zfu ps).map pD)) S:=by
 unfold zk8;rw[zi4 h];dsimp only;rw[I,if_pos rfl]
def zvM(h:ρ[j]?=some (some (true,.lst (l++[d])))):zr0 i j ρ S=.nx ((ρ.set j (some (true,.lst l))).set i (~~~d)) S:=by
 unfold zr0;rw[h];dsimp only;rw[List.getLast?_concat,List.dropLast_concat]
@[simp] def zyI:sFz is a ρ S=a (frz is ρ) S:=(rfl)
@[simp] def zw8:frz [] ρ=ρ:=(rfl)
@[simp] def zw7:frz (i::is) ρ=frz is (frz1 ρ i):=(rfl)
@[simp] def zyV(i:Nat):frz1 ρ i=zwa ρ i ρ[i]?:=(rfl)
@[simp] def zxU:zwa ρ i (some (some (true,d)))=ρ.set i (~~~d):=(rfl)
@[simp] def zxT:zwa ρ i (some (~~~d))=ρ:=(rfl)
@[simp] def zyG:sNx ρ S=.nx ρ S:=(rfl)
@[simp] def zyJ:sBk ρ S=.bk ρ S:=(rfl)
@[simp] def zwT:zbd i o f ρ S=zyl i o ρ (f ρ S):=(rfl)
@[simp] def zx3:zyl i o ρ (.ok d S)=.nx (ρ.set i (some (o,d))) S:=(rfl)
@[simp] def zwS:zjS f ρ S=zwb ρ (f ρ S):=(rfl)
@[simp] def zxY:zwb ρ (.ok d S)=.nx ρ S:=(rfl)
@[simp] def zxX:zwb ρ (.exc x S)=.ex x ρ S:=(rfl)
@[simp] def zwO:zaJ f ρ S=zx9 ρ (f ρ S):=(rfl)
@[simp] def zxM:zx9 ρ (.ok d S)=.rt d S:=(rfl)
@[simp] def zvd:zgE i ρ S=zuh S ρ[i]?:=(rfl)
@[simp] def zxL:zuh S (some (some (true,d)))=.rt d S:=(rfl)
@[simp] def zyH:sIf c a b ρ S=zv9 a b ρ (c ρ S):=(rfl)
@[simp] def zxS:zv9 a b ρ (.ok (.bl true) S)=a ρ S:=(rfl)
@[simp] def zxR:zv9 a b ρ (.ok (.bl false) S)=b ρ S:=(rfl)
@[simp] def zwU:zif i f ρ S=zym i f ρ S ρ[i]?:=(rfl)
@[simp] def zz2:zym i f ρ S (some (some (true,.lst l)))=zru i ρ l (f ρ S):=(rfl)
@[simp] def zx4:zru i ρ l (.ok d S)=if zbh l.length then .nx (ρ.set i (some (true,.lst (l++[d])))) S else .bad:=(rfl)
@[simp] def zwR:zr2 i f ρ S=zyh i f ρ S ρ[i]?:=(rfl)
@[simp] def zzT:zyh i f ρ S (some (some (true,.lst l)))=zrq i ρ l (f ρ S):=(rfl)
@[simp] def zxW{l k:List D}:zrq i ρ l (.ok (.lst k) S)=if zbh (l.length+k.length)then .nx (ρ.set i (some (true,.lst (l++k)))) S else .bad:=(rfl)
@[simp] def zwP:zr1 i j J f I g ρ S=zya i j J I g ρ (f ρ S):=(rfl)
@[simp] def zzF:zya i j J I g ρ (.ok d S)=zro i j J I d ρ (g ρ S):=(rfl)
@[simp] def zxO:zro i j J I d ρ (.ok e S)=.nx ((ρ.set i (some (J,d))).set j (some (I,e))) S:=(rfl)
@[simp] def zvg:zkP t f ρ S=zrt t ρ (f ρ S):=by
 unfold zkP zrt
 cases f ρ S with
 |ok d S'=>dsimp only;cases t.put ρ d<;>rfl|exc c S'=>rfl|bad=>rfl
@[simp] def zx2:zrt t ρ (.ok d S)=zv8 S (t.put ρ d):=(rfl)
@[simp] def zzE:zv8 S (some I)=.nx I S:=(rfl)
@[simp] def zwQ:zgS t it a ρ S=zyf t a ρ (it ρ S):=(rfl)
@[simp] def zzQ:zyf t a ρ (.ok ds S)=zeq t a ds ρ S:=(rfl)
@[simp] def zyF:sRz x fs ρ S=kRz x ρ (zap fs ρ S):=(rfl)
@[simp] def zAx:kRz x ρ (.ok ds S)=if zbh ds.length then .ex x ρ S else .bad:=(rfl)
@[simp] def zwZ:(Tg.one i).put ρ d=some (ρ.set i (~~~d)):=(rfl)
@[simp] def zwW:(Tg.tup is).put ρ (.tup ds)=zfr is ds ρ:=(rfl)
@[simp] def zwY:zfr (i::is) (d::ds) ρ=zfr is ds (ρ.set i (~~~d)):=(rfl)
@[simp] def zwX:zfr [] [] ρ=some ρ:=(rfl)
@[simp] def zxa:zaa i ρ S=zx7 S ρ[i]?:=(rfl)
@[simp] def zzz:zx7 S (some (~~~d))=.ok d S:=(rfl)
@[simp] def zxh:zag i ρ S=zyj S ρ[i]?:=(rfl)
@[simp] def zz1:zyj S (some (some (o,d)))=.ok d S:=(rfl)
@[simp] def zxg:zad d ρ S=.ok d S:=(rfl)
@[simp] def zyX:eUn u f ρ S=kUn u (f ρ S):=by
 unfold eUn;cases f ρ S<;>rfl
@[simp] def zzA:kUn u (.ok d S)=Out.of (u d) S:=(rfl)
@[simp] def zxi:zaf u f g ρ S=zyk u g ρ (f ρ S):=by
 unfold zaf
 cases f ρ S with
 |ok a S1=>show((g ρ S1).bind fun b S2=>Out.of (u a b) S2)=zoP u a (g ρ S1);cases g ρ S1<;>rfl|exc c S=>rfl|bad=>rfl
@[simp] def zx1:zyk u g ρ (.ok d S)=zoP u d (g ρ S):=(rfl)
@[simp] def zx0:zoP u d (.ok e S)=Out.of (u d e) S:=(rfl)
@[simp] def zy1:eIf c f g ρ S=kIf f g ρ (c ρ S):=by
 unfold eIf;cases c ρ S<;>rfl
@[simp] def zzO:kIf f g ρ (.ok (.bl true) S)=f ρ S:=(rfl)
@[simp] def zzN:kIf f g ρ (.ok (.bl false) S)=g ρ S:=(rfl)
@[simp] def zxj:zgB f g ρ S=zwc g ρ (f ρ S):=by
 unfold zgB;cases f ρ S<;>rfl
@[simp] def zx6:zwc g ρ (.ok (.bl true) S)=g ρ S:=(rfl)
@[simp] def zx5:zwc g ρ (.ok (.bl false) S)=.ok (.bl false) S:=(rfl)
@[simp] def zyZ:eOr f g ρ S=kOr g ρ (f ρ S):=by
 unfold eOr;cases f ρ S<;>rfl
@[simp] def zzH:kOr g ρ (.ok (.bl true) S)=.ok (.bl true) S:=(rfl)
@[simp] def zzG:kOr g ρ (.ok (.bl false) S)=g ρ S:=(rfl)
@[simp] def zvi:zap [] ρ S=.ok [] S:=(rfl)
@[simp] def zvj:zap (f::fs) ρ S=zrr fs ρ (f ρ S):=by
 show((f ρ S).bind fun d S1=>(zap fs ρ S1).bind fun ds S2=>.ok (d::ds) S2)=_
 cases f ρ S with
 |ok a S1=>show((zap fs ρ S1).bind fun ds S2=>.ok (a::ds) S2)=zkg a (zap fs ρ S1);cases zap fs ρ S1<;>rfl|exc c S=>rfl|bad=>rfl
@[simp] def zv3:zrr fs ρ (.ok d S)=zkg d (zap fs ρ S):=(rfl)
@[simp] def zv2:zrr fs ρ (.exc x S)=.exc x S:=(rfl)
@[simp] def zv1:zkg d (.ok ds S)=.ok (d::ds) S:=(rfl)
@[simp] def zxb:zcg fs ρ S=zx8 (zap fs ρ S):=by
 unfold zcg;cases zap fs ρ S<;>rfl
@[simp] def zzB:zx8 (.ok ds S)=if zbh ds.length then .ok (.tup ds) S else .bad:=(rfl)
@[simp] def zxd:zee fs ρ S=zyc (zap fs ρ S):=by
 unfold zee;cases zap fs ρ S<;>rfl
@[simp] def zzK:zyc (.ok ds S)=if zbh ds.length then .ok (.lst ds) S else .bad:=(rfl)
@[simp] def zvl:zax u fs ρ S=zul u (zap fs ρ S):=by
 unfold zax;cases zap fs ρ S<;>rfl
@[simp] def zv5:zul u (.ok ds S)=Out.of (u ds) S:=(rfl)
@[simp] def zy2:eFn r fs ρ S=kFn r (zap fs ρ S):=by
 unfold eFn;cases zap fs ρ S<;>rfl
@[simp] def zzR:kFn r (.ok ds S)=r ds S:=(rfl)
@[simp] def zuZ:zc9 u v f g h ρ S=zpK u v g h ρ (f ρ S):=by
 show((f ρ S).bind fun a S1=>(g ρ S1).bind fun b S2=>match(u a b).bind isB with
  |some true=>(h ρ S2).bind fun c e=>Out.of (v b c) e|some false=>.ok (.bl false) S2|none=>.bad)=_
 cases f ρ S with
 |ok a S1=>
  show((g ρ S1).bind fun b S2=>match(u a b).bind isB with
   |some true=>(h ρ S2).bind fun c e=>Out.of (v b c) e|some false=>.ok (.bl false) S2|none=>.bad)=zhD u v h ρ a (g ρ S1)
  cases g ρ S1 with
  |ok b S2=>
   show(match(u a b).bind isB with
    |some true=>(h ρ S2).bind fun c e=>Out.of (v b c) e|some false=>.ok (.bl false) S2|none=>.bad)=zge v h ρ b S2 (u a b)
   cases i:u a b with
   |none=>rfl|some d=>
    show(match isB d with
     |some true=>(h ρ S2).bind fun c e=>Out.of (v b c) e|some false=>.ok (.bl false) S2|none=>.bad)=(match isB d with|some true=>zgf v b (h ρ S2)|some false=>.ok (.bl false) S2|none=>.bad)
    cases j:isB d with
    |none=>rfl|some x=>cases x with
     |true=>show((h ρ S2).bind fun c e=>Out.of (v b c) e)=zgf v b (h ρ S2);cases h ρ S2<;>rfl|false=>rfl
  |exc c S=>rfl|bad=>rfl
 |exc c S=>rfl|bad=>rfl
@[simp] def zzZ:zpK u v g h ρ (.ok d S)=zhD u v h ρ d (g ρ S):=(rfl)
@[simp] def zzY:zhD u v h ρ d (.ok e S)=zge v h ρ e S (u d e):=(rfl)
@[simp] def zzX:zge v h ρ e S (some (.bl true))=zgf v e (h ρ S):=(rfl)
@[simp] def zzW:zge v h ρ e S (some (.bl false))=.ok (.bl false) S:=(rfl)
@[simp] def zzV:zgf v e (.ok d S)=Out.of (v e d) S:=(rfl)
@[simp] def zuY:zdG none ρ S=.ok none S:=(rfl)
@[simp] def zuX:zdG (some f) ρ S=zyd (f ρ S):=by
 show((f ρ S).bind fun d S1=>match d with|.int i=>.ok (some i) S1|_=>.bad)=_
 cases f ρ S with
 |ok d S'=>cases d<;>rfl|exc c S'=>rfl|bad=>rfl
@[simp] def zzM:zyd (.ok (.int i) S)=.ok (some i) S:=(rfl)
@[simp] def zyY:eSl f l u ρ S=kSl l u ρ (f ρ S):=by
 unfold eSl
 cases f ρ S with
 |ok d S1=>
  show((zdG l ρ S1).bind fun l S2=>(zdG u ρ S2).bind fun u a=>Out.of (slD d l u) a)=zu4 d u ρ (zdG l ρ S1)
  cases zdG l ρ S1 with
  |ok l S2=>show((zdG u ρ S2).bind fun u a=>Out.of (slD d l u) a)=zu3 d l (zdG u ρ S2);cases zdG u ρ S2<;>rfl|exc c S=>rfl|bad=>rfl
 |exc c S=>rfl|bad=>rfl
@[simp] def zAw:kSl l u ρ (.ok d S)=zu4 d u ρ (zdG l ρ S):=(rfl)
@[simp] def zzD:zu4 d u ρ (.ok l S)=zu3 d l (zdG u ρ S):=(rfl)
@[simp] def zzC:zu3 d l (.ok u S)=Out.of (slD d l u) S:=(rfl)
@[simp] def zvh:zbe f ρ S=zpJ (f ρ S):=by
 show((f ρ S).bind fun d S1=>match d with|.lst l=>.ok l S1|.tup l=>.ok l S1|.scr l=>.ok (l.map D.int) S1|_=>.bad)=_
 cases f ρ S with
 |ok d S'=>cases d<;>rfl|exc c S'=>rfl|bad=>rfl
@[simp] def zzL:zpJ (.ok (.lst l) S)=.ok l S:=(rfl)
@[simp] def zw9:zlb f ρ S=zuk (zap [f] ρ S):=by
 show((zap [f] ρ S).bind fun ds S1=>match ds with|[.lst l]=>.ok (zd1 l) S1|[.tup l]=>.ok (zd1 l) S1|_=>.bad)=_
 cases zap [f] ρ S with
 |ok ds S'=>
  cases ds with
  |nil=>rfl|cons d ds=>cases ds with
   |nil=>cases d<;>rfl|cons e ds=>cases d<;>rfl
 |exc c S'=>rfl|bad=>rfl
@[simp] def zzU:zuk (.ok [.lst l] S)=.ok (zd1 l) S:=(rfl)
@[simp] def zyA:zk7 f g ρ S=zv6 (zap [f,g] ρ S):=by
 unfold zk7;cases zap [f,g] ρ S<;>rfl
@[simp] def zxC{l k:List D}:zv6 (.ok [.tup l,.tup k] S)=.ok (zfn l k) S:=(rfl)
@[simp] def zxB{l k:List D}:zv6 (.ok [.lst l,.lst k] S)=.ok (zfn l k) S:=(rfl)
@[simp] def zwV:zdt f ρ S=zug (zap [f] ρ S):=by
 unfold zdt;cases zap [f] ρ S<;>rfl
@[simp] def zxK:zug (.ok [.int j] S)=if -1000000<=j/\j<=1000000 then .ok (zaw 0 j) S else .bad:=(rfl)
@[simp] def zxk:zb2 n t it c f caps ρ S=zrs t c f (zch n caps ρ) (it ρ S):=by
 unfold zb2
 cases it ρ S with
 |ok ds S'=>
  simp only[Out.bind,zrs]
  cases zbE t c f (zch n caps ρ) ds S'<;>rfl
 |exc c S'=>rfl|bad=>rfl
@[simp] def zxZ:zrs t c f ag (.ok ds S)=zmU (zbE t c f ag ds S):=(rfl)
@[simp] def zv4:zmU (.ok ys S)=if zbh ys.length then .ok (.lst ys) S else .bad:=(rfl)
@[simp] def zyB:zeY ρ S=.ok (.bl true) S:=(rfl)
@[simp] def zse:zch n caps ρ=List.replicate n none++caps.map (zuI ρ):=(rfl)
@[simp] def zxl:zuI ρ i=zyi ρ[i]?:=(rfl)
@[simp] def zz0:zyi (some (~~~d))=(~~~d):=(rfl)
def zaj:zaI n own fs ds S=zu5 own (fs (ds.map (fun d=>~~~d)++List.replicate (n-ds.length) none) S):=(rfl)
@[simp] def zxJ:zu5 own (.rt d S)=.ok d S:=(rfl)
@[simp] def zxI:zu5 false (.nx ρ S)=.ok .non S:=(rfl)
@[simp] def zxH:zu5 own (.ex x ρ S)=.exc x S:=(rfl)
@[simp] def zyU{b:Bool}:isB (.bl b)=some b:=(rfl)
@[simp] def zyK{b:Bool}:zeP (.bl b)=some (.bl (!b)):=(rfl)
@[simp] def zyL:zrf (.int i)=some (.int (-i)):=(rfl)
@[simp] def zxo:zbG (.int i) (.int j)=some (.int (i+j)):=(rfl)
@[simp] def zxm:zbG (.tup x) (.tup y)=if zbh (x.length+y.length)then some (.tup (x++y))else none:=(rfl)
@[simp] def zxn:zbG (.lst x) (.lst y)=if zbh (x.length+y.length)then some (.lst (x++y))else none:=(rfl)
@[simp] def zyC:zlm (.int i) (.int j)=some (.int (i-j)):=(rfl)
@[simp] def zyN:zff (.int i) (.int j)=if zci i||zci j then some (.int (i*j))else none:=(rfl)
@[simp] def zyO:zkc (.int i) (.int j)=if 0<j then some (.int (i % j))else none:=(rfl)
@[simp] def zy3:zpU (.int i) (.int j)=if 0<j/\j<1073741824 then some (.int (i / j))else none:=(rfl)
@[simp] def zAs:ltD (.int i) (.int j)=some (.bl (decide (i<j))):=(rfl)
@[simp] def zAt:leD (.int i) (.int j)=some (.bl (decide (i<=j))):=(rfl)
@[simp] def zAu:gtD (.int i) (.int j)=some (.bl (decide (j<i))):=(rfl)
@[simp] def zAv:geD (.int i) (.int j)=some (.bl (decide (j<=i))):=(rfl)
@[simp] def zyR:ixD (.lst l) (.int i)=atI l i:=(rfl)
@[simp] def zyP:ixD (.tup l) (.int i)=atI l i:=(rfl)
@[simp] def zyQ:ixD (.scr l) (.int i)=(atI l i).map D.int:=(rfl)
@[simp] def zw6:zeg [.lst l]=some (.int l.length):=(rfl)
@[simp] def zw4:zeg [.tup l]=some (.int l.length):=(rfl)
@[simp] def zw5:zeg [.scr l]=some (.int l.length):=(rfl)
@[simp] def zwM:zbH [.lst l]=some (.tup l):=(rfl)
@[simp] def zw3:zmO [.lst l]=some (.lst l):=(rfl)
@[simp] def zyT:zki d .non=some (.bl (zdF d)):=(rfl)
@[simp] def zw0:zkW d .non=some (.bl (!zdF d)):=(rfl)
@[simp] def zw2:zdF .non=true:=(rfl)
@[simp] def zw1:zdF (.int i)=false:=(rfl)
@[simp] def zyD:slD (.tup l) x y=some (.tup (zej l x y)):=(rfl)
@[simp] def zyE:slD (.lst l) x y=some (.lst (zej l x y)):=(rfl)
@[simp] def zlu:zbh n=decide (n<=100000):=(rfl)
def zcR{α:Type}(xs:List α)(j:Nat):atI xs (j:Int)=xs[j]?:=by
 unfold atI ixN
 by_cases h:j<xs.length
 ·simp[h]
 ·simp[h]
@[simp] def zva{α:Type}(xs:List α):atI xs 0=xs[0]?:=zcR xs 0
@[simp] def zwE{α:Type}(xs:List α):atI xs 1=xs[1]?:=zcR xs 1
@[simp] def zuQ{α:Type}(xs:List α):atI xs 3=xs[3]?:=zcR xs 3
def zfP{α:Type}{xs:List α}(h:0<=i):atI xs i=xs[i.toNat]?:=by
 obtain⟨n,rfl⟩:=ycJ h;exact zcR xs n
end
theorem zeb(Iv:Nat->Env->Prop)(step:∀k d ρ,ds[k]?=some d->Iv k ρ->∃U J,tg.put ρ d=some U/\body U S=.nx J S/\Iv (k+1) J)(h0:Iv 0 ρ):∃I,zeq tg body ds ρ S=.nx I S/\Iv ds.length I:=by
 have go:∀(n:Nat) (es:List D) (k:Nat) (ρ:Env),es.length=n->ds.drop k=es->k+n=ds.length->Iv k ρ->∃I,zeq tg body es ρ S=.nx I S/\Iv ds.length I:=by
  intro n
  induction n with
  |zero=>
   intro es k ρ a he e hi;obtain rfl:es=[]:=ya4 a;exact⟨ρ,rfl,by rw[show ds.length=k by omega];exact hi⟩
  |succ n c=>
   intro es k ρ a he e hi
   cases es with
   |nil=>cases a|cons d es=>
    have hd:ds[k]?=some d:=by
     have:=congrArg (fun l=>l[0]?) he;rw[ybK]at this;simpa using this
    obtain⟨U,J,i,h,b⟩:=step k d ρ hd hi;obtain⟨I,g,f⟩:=c es (k+1) J (by simpa using a) (by rw[<-List.drop_drop,he];rfl) (by omega) b;refine⟨I,?_,f⟩;unfold zeq;rw[i];dsimp only;rw[h];exact g
 exact go ds.length ds 0 ρ rfl (by simp) (by omega) h0
theorem zd2:∀{ds:List D},(∀d∈ds,∃I,tg.put ag d=some I/\c I S=.ok (.bl (p d)) S/\(p d=true->elt I S=.ok (g d) S))->zbE tg c elt ag ds S=.ok ((ds.filter p).map g) S
 |[],_=>rfl|d::ds,h=>by
  obtain⟨I,j,i,f⟩:=h d yay;have b:=zd2 (ds:=ds) fun x e=>h x (yas _ e)
  unfold zbE;rw[j];dsimp only;rw[i]
  cases a:p d with
  |true=>simp[f a,b,a]|false=>simp[b,a]
def ze3(h:∀d∈ds,∃I,tg.put ag d=some I/\elt I S=.ok (g d) S):zbE tg zeY elt ag ds S=.ok (ds.map g) S:=by
 have:=zd2 (c:=zeY) (p:=fun _=>true) (tg:=tg) (elt:=elt) (ag:=ag) (S:=S) (g:=g) (ds:=ds) fun d hd=>by
  obtain⟨I,b,a⟩:=h d hd;exact⟨I,b,rfl,fun _=>a⟩
 rw[this,List.filter_eq_self.mpr (fun _ _=>rfl)]
mutual
noncomputable def D.pl:D->Bool
 |.non=>true|.int _=>true|.str _=>true|.tup l=>D.pls l|.lst l=>D.pls l|_=>false
noncomputable def D.pls:List D->Bool
 |[]=>true|d::l=>d.pl&&D.pls l
end
theorem D.pls_iff:∀{l:List D},D.pls l=true↔∀d∈l,d.pl=true
 |[]=>by simp[D.pls]
 |d::l=>by simp[D.pls,D.pls_iff (l:=l)]
mutual
theorem zkq:∀(d e:D),d.pl=true->e.pl=true->(d.py.eqv e.py=true↔d=e)
 |.non,e,_,h=>by cases e<;>simp[D.py,PyData.eqv,D.pl]at h ⊢
 |.int i,e,_,h=>by cases e<;>simp[D.py,PyData.eqv,D.pl]at h ⊢
 |.str x,e,_,h=>by cases e<;>simp[D.py,PyData.eqv,D.pl]at h ⊢
 |.tup l,e,hd,h=>by
  cases e with
  |tup k=>
   simp only[D.py,PyData.eqv,D.pl]at hd h ⊢;rw[zjs l k hd h];simp
  |_=>simp[D.py,PyData.eqv,D.pl]at h ⊢
 |.lst l,e,hd,h=>by
  cases e with
  |lst k=>
   simp only[D.py,PyData.eqv,D.pl]at hd h ⊢;rw[zjs l k hd h];simp
  |_=>simp[D.py,PyData.eqv,D.pl]at h ⊢
 |.bl _,_,hd,_=>by simp[D.pl]at hd
 |.dic _,_,hd,_=>by simp[D.pl]at hd
 |.ref _,_,hd,_=>by simp[D.pl]at hd
 |.exc _,_,hd,_=>by simp[D.pl]at hd
 |.scr _,_,hd,_=>by simp[D.pl]at hd
theorem zjs:∀(l k:List D),D.pls l=true->D.pls k=true->(PyData.eqvAll (D.pys l) (D.pys k)=true↔l=k)
 |[],[],_,_=>by simp[D.pys,PyData.eqvAll]
 |[],_::_,_,_=>by simp[D.pys,PyData.eqvAll]
 |_::_,[],_,_=>by simp[D.pys,PyData.eqvAll]
 |d::l,e::k,h1,h2=>by
  simp only[D.pls,yab]at h1 h2;simp only[D.pys,PyData.eqvAll,yab,List.cons.injEq];rw[zkq d e h1.1 h2.1,zjs l k h1.2 h2.2]
end
@[simp] def zrF:D.fit n (.int i)=true:=by cases n<;>rfl
@[simp] def zwl:D.fit n .non=true:=by cases n<;>rfl
@[simp] def zu8:D.fits n []=true:=by cases n<;>rfl
@[simp] def zuw:D.fits n (d::l)=(d.fit n&&D.fits n l):=by cases n<;>rfl
@[simp] def zyW:eqD (.int i) (.int j)=some (.bl (decide (i=j))):=by
 unfold eqD zgW;simp[D.py,PyData.eqv]
 cases h:(i==j)<;>simp_all
@[simp] def zyM:neD (.int i) (.int j)=some (.bl (!decide (i=j))):=by
 unfold neD zgW;simp[D.py,PyData.eqv]
 cases h:(i==j)<;>simp_all
def zg7:eqD (.scr l) (.lst [])=some (.bl (decide (l=[]))):=by
 cases l with
 |nil=>rfl|cons a l=>simp[eqD,D.fit,D.fits,zgW,D.py,D.pys,PyData.eqv,PyData.eqvAll]
noncomputable def zlf(l:List Int)(k:Int):Int:=if k<l.length then l.getD k.toNat 0 else if l=[]then 0 else l.getD (k % l.length).toNat 0*31+k
def zbt(l:List Int)(k:Int)(many:Int):Int:=
 let d:=(zlf l k+6151*(k+1))*40692 % 2147483399
 (d*d+d / 31) % 2147483629 % many
def zcV(l:List Int)(k:Int)(h:0<many):0<=zbt l k many/\zbt l k many<many:=⟨Int.emod_nonneg _ (by omega),ydg _ h⟩
@[simp] def zyq:zci 31=true:=by decide
@[simp] def zu9:zci 6151=true:=by decide
@[simp] def zuy:zci 40692=true:=by decide
theorem zpQ(h0:-(2 ^ 64)<i)(h:i<2 ^ 64):zci i=true:=by unfold zci;simp;omega
theorem zn4(I:0<=k):zbX [.scr l,.int k] S=.ok (.int (zlf l k)) S:=by
 unfold zlf
 by_cases h:k<l.length
 ·have a:l[k.toNat]?=some l[k.toNat]:=yad (by omega);rw[if_pos h,yaD,a];simp[zbX,zaj,zcA,h,zfP I,a]
 ·by_cases h0:l=[]
  ·subst h0;simp[zbX,zaj,zcA,zg7,show ¬ k<0 by omega]
  ·have d:0<l.length:=by cases l with|nil=>exact absurd rfl h0|cons _ _=>simp
   have b:0<=k % (l.length:Int):=Int.emod_nonneg _ (by omega);have c:k % (l.length:Int)<l.length:=ydg _ (by omega);have a:l[(k % (l.length:Int)).toNat]?=some (l[(k % (l.length:Int)).toNat]'(by omega)):=yad (by omega);rw[if_neg h,if_neg h0,yaD,a];simp[zbX,zaj,zcA,h,h0,zg7,zfP b,a,d]
theorem zcj(I:0<=k)(hm:0<many):zaz [.scr l,.int k,.int many] S=.ok (.int (zbt l k many)) S:=by
 unfold zbt;have h0:0<=(zlf l k+6151*(k+1))*40692 % 2147483399:=Int.emod_nonneg _ (by omega);have h1:(zlf l k+6151*(k+1))*40692 % 2147483399<2147483399:=ydg _ (by omega);have hf:zci ((zlf l k+6151*(k+1))*40692 % 2147483399)=true:=zpQ (by omega) (by omega);simp[zaz,zaj,zey,zn4 I,hf,hm]
noncomputable def zah(t:List Int):D:=.tup (t.map D.int)
def zoS{t u:List Int}:t.map D.int=u.map D.int↔t=u:=by
 constructor
 ·intro h
  induction t generalizing u with
  |nil=>cases u with|nil=>rfl|cons _ _=>cases h
  |cons a t c=>cases u with
   |nil=>cases h|cons b u=>
    simp only[yav,List.cons.injEq,D.int.injEq]at h;rw[h.1,c h.2]
 ·rintro rfl;rfl
def znL:zah t=zah u↔t=u:=by unfold zah;rw[D.tup.injEq];exact zoS
def zoh{t:List Int}:D.pls (t.map D.int)=true:=by rw[D.pls_iff];intro d hd;obtain⟨i,_,rfl⟩:=yat.mp hd;rfl
def zmm:(zah t).pl=true:=zoh
def zna{t:List Int}:D.fits n (t.map D.int)=true:=by rw[D.fits_iff];intro d hd;obtain⟨i,_,rfl⟩:=yat.mp hd;exact zrF
def zkp:(zah t).fit (n+1)=true:=zna
theorem zpH:∀{l:List D},d.pl=true->D.pls l=true->(znE d l=true↔d∈l)
 |[],_,_=>by simp[znE]
 |e::l,h,a=>by
  simp only[D.pls,yab]at a;have b:=zpH (d:=d) (l:=l) h a.2;have c:=zkq e d a.1 h;unfold znE;simp only[List.any_cons,Bool.or_eq_true,yan];unfold znE at b;rw[b];unfold zgW;rw[c]
  constructor<;>(intro z;rcases z with z|z<;>simp[z])
def ziz{ts:Z2}:zoC (zah t) (.lst (ts.map zah))=some (.bl (!decide (t∈ts))):=by
 have f1:(zah t).fit 8=true:=zkp
 have f2:D.fits 8 (ts.map zah)=true:=by rw[D.fits_iff];intro d hd;obtain⟨i,_,rfl⟩:=yat.mp hd;exact zkp
 have p2:D.pls (ts.map zah)=true:=by rw[D.pls_iff];intro d hd;obtain⟨i,_,rfl⟩:=yat.mp hd;exact zmm
 have m:=zpH (d:=zah t) zmm p2
 have:(zah t∈ts.map zah)↔t∈ts:=by
  rw[yat];constructor
  ·rintro⟨u,a,e⟩;rw[<-znL.mp e];exact a
  ·intro h;exact⟨t,h,rfl⟩
 rw[this]at m;unfold zoC;simp only[zlR,f1,f2,Bool.and_self,ycX,Option.some.injEq,D.bl.injEq];congr 1
 by_cases h:t∈ts
 ·rw[m.mpr h];simp[h]
 ·cases hm:znE (zah t) (ts.map zah)
  ·simp[h]
  ·exact absurd (m.mp hm) h
structure Tiles(most:Int)(ts:Z2):Prop where
 ne:1<=ts.length
 le:(ts.length:Int)<=most
 four:∀t∈ts,t.length=4
 col:∀t∈ts,∀c∈t,0<=c/\c<3
 nd:ts.Nodup
def zc6{k:Nat}(h:(zaw 0 hi)[k]?=some d):d=.int k/\(k:Int)<hi:=by
 unfold zaw at h;rw[yaw]at h
 cases a:(List.range (hi-0).toNat)[k]? with
 |none=>rw[a]at h;cases h|some j=>
  rw[a]at h;obtain⟨h1,h2⟩:=yal.mp a;simp at h1 h2;subst h2;simp at h;exact⟨h.symm,by omega⟩
@[simp] def zim:(zaw 0 hi).length=hi.toNat:=by unfold zaw;simp
def ztc:zaw 0 4=[.int 0,.int 1,.int 2,.int 3]:=by rfl
@[simp] def zAg:zci 4=true:=by decide
@[simp] def zAf:zci 7=true:=by decide
theorem zqc(ha:0<=at')(hk:0<=k)(I:0<col)(U:col<=3)(hn:ts.length<=1000):
  ∃t J,t.length=4/\(∀c∈t,0<=c/\c<3)/\zbx [~~~.scr l,~~~.int at',~~~.int most,~~~.int col,some (true,.lst (ts.map zah)),~~~.int k,y] S
   = .nx [~~~.scr l,~~~.int at',~~~.int most,~~~.int col,some (true,.lst ((if t∈ts then ts else ts++[t]).map zah)),~~~.int k,J] S:=by
 have a:∀ag:Env,ag=[none,~~~.int at',~~~.int col,~~~.int k,~~~.scr l]->zbE (.one 0) zeY (eFn zaz [(zaa 4),(zaf zbG (zaf zbG (zaf zbG (zag 1) (zaf zff (zad (.int 4)) (zag 3))) (zad (.int 2))) (zag 0)),(zaa 2)]) ag (zaw 0 4) S
   = .ok ([zbt l (at'+4*k+2+0) col,zbt l (at'+4*k+2+1) col,zbt l (at'+4*k+2+2) col,zbt l (at'+4*k+2+3) col].map D.int) S:=by
  rintro _ rfl;rw[ztc,ze3 (g:=fun d=>match d with|.int i=>.int (zbt l (at'+4*k+2+i) col)|_=>.non)]
  ·rfl
  ·intro d hd;simp only[yan,yaM,ybY]at hd
   rcases hd with rfl|rfl|rfl|rfl<;>exact⟨_,rfl,by simp;rw[zcj (by omega) I]⟩
 have n:=zcV l (at'+4*k+2+0) I;have m:=zcV l (at'+4*k+2+1) I;have j:=zcV l (at'+4*k+2+2) I;have f:=zcV l (at'+4*k+2+3) I;generalize zbt l (at'+4*k+2+0) col=b,zbt l (at'+4*k+2+1) col=p1,zbt l (at'+4*k+2+2) col=p2,zbt l (at'+4*k+2+3) col=p3 at*
 have fin:∀t:List Int,(zac (sFz [] (sIf (zaf zoC (zag 6) (zag 4)) (zac (sFz [6] (zif 4 (zaa 6))) sNx) sNx)) sNx) [~~~.scr l,~~~.int at',~~~.int most,~~~.int col,some (true,.lst (ts.map zah)),~~~.int k,~~~zah t] S
   = .nx [~~~.scr l,~~~.int at',~~~.int most,~~~.int col,some (true,.lst ((if t∈ts then ts else ts++[t]).map zah)),~~~.int k,~~~zah t] S:=by
  intro t
  by_cases h:t∈ts
  ·simp[ziz,h]
  ·simp[ziz,h,show ts.length<=100000 by omega]
 by_cases e:zbt l (at'+60+k) 3=0
 ·refine⟨[b,p1,b,p1],~~~zah [b,p1,b,p1],rfl,by simp;omega,?_⟩;rw[<-fin];simp[zbx,a,zcj (show 0<=at'+60+k by omega) (show(0:Int)<3 by omega),e];rfl
 ·refine⟨[b,p1,p2,p3],~~~zah [b,p1,p2,p3],rfl,by simp;omega,?_⟩;rw[<-fin];simp[zbx,a,zcj (show 0<=at'+60+k by omega) (show(0:Int)<3 by omega),e];rfl
theorem zlX(I:0<=at')(hm:0<most)(J:most<=100):∃ts,Tiles most ts/\zcK [.scr l,.int at',.int most] S=.ok (.tup (ts.map zah)) S:=by
 have b:=zcV l at' (many:=2) (by omega);have n:=zcV l (at'+1) hm;have p1:=zcj (l:=l) (S:=S) I (show(0:Int)<2 by omega);have p2:=zcj (l:=l) (S:=S) (show 0<=at'+1 by omega) hm;generalize zbt l at' 2=c,zbt l (at'+1) most=m at*
 obtain⟨o,e,ts,x,y,rfl,h1,h2,i,h4,g⟩:=zeb (tg:=.one 5) (body:=zbx) (ds:=zaw 0 (1+m)) (S:=S) (fun k ρ=>∃ts x y,ρ=[~~~.scr l,~~~.int at',~~~.int most,~~~.int (2+c),some (true,.lst (ts.map zah)),x,y]/\ts.length<=k/\(0<k->1<=ts.length)/\(∀t∈ts,t.length=4)/\(∀t∈ts,∀c∈t,0<=c/\c<3)/\ts.Nodup) (by
   rintro k d ρ hd ⟨ts,x,y,rfl,h1,h2,i,h4,g⟩;obtain⟨rfl,r⟩:=zc6 hd;obtain⟨t,q,a1,a2,p⟩:=zqc (l:=l) (at':=at') (most:=most) (col:=2+c) (k:=k) (S:=S) (ts:=ts) (y:=y) I (by omega) (by omega) (by omega) (by omega);refine⟨_,_,rfl,p,_,_,_,rfl,?_,?_,?_,?_,?_⟩
   ·split<;>(try simp)<;>omega
   ·intro _;split
    ·rename_i h;exact List.length_pos_of_mem h
    ·simp
   ·intro u f;split at f
    ·exact i u f
    ·rw[ybj,yaI]at f
     rcases f with f|rfl
     ·exact i u f
     ·exact a1
   ·intro u f;split at f
    ·exact h4 u f
    ·rw[ybj,yaI]at f
     rcases f with f|rfl
     ·exact h4 u f
     ·exact a2
   ·split
    ·exact g
    ·rename_i h;rw[List.nodup_append];refine⟨g,by simp,?_⟩
     intro a I b j;rw[yaI]at j;subst j;rintro rfl;exact h I)
  (ρ:=[~~~.scr l,~~~.int at',~~~.int most,~~~.int (2+c),some (true,.lst []),none,none]) ⟨[],none,none,rfl,by simp,by simp,by simp,by simp,by simp⟩
 rw[zim]at h1 h2;refine⟨ts,⟨h2 (by omega),by omega,i,h4,g⟩,?_⟩;simp[zcK,zaj,zdX,p1,p2,show -1000000<=1+m/\1+m<=1000000 by omega,e]
noncomputable def oD:Option Int->D|none=>.non|some i=>.int i
noncomputable def zeD(c:Nat)(g:Nat->Option Int):List D:=(List.range c).map fun j=>oD (g j)
def zem(c:Nat)(g:Nat->Option Int):D:=.tup (zeD c g)
noncomputable def zc5(r c:Nat)(g:Z1):List D:=(List.range r).map fun i=>zem c (g i)
def flr(r c:Nat)(g:Z1):D:=.tup (zc5 r c g)
@[simp] def zd3:(zeD c g).length=c:=by simp[zeD]
@[simp] def zdl:(zc5 r c g).length=r:=by simp[zc5]
def zfI(h:j<c):(zeD c g)[j]?=some (oD (g j)):=by simp[zeD,h]
def zec(h:i<r):(zc5 r c g)[i]?=some (zem c (g i)):=by simp[zc5,h]
@[simp] def zwk(h:i<(zc5 r c g).length):(zc5 r c g)[i]=zem c (g i):=by simp[zc5]
def zl6:zeD (k+1) g=zeD k g++[oD (g k)]:=by simp[zeD,ybS]
def ziG:zc5 (k+1) c g=zc5 k c g++[zem c (g k)]:=by simp[zc5,ybS]
def zln(l:List Int)(at' n m:Int)(i j:Nat):Option Int:=if zbt l (at'+7*i+j) (n*m)<n then some (zbt l (at'+7*i+j) (n*m))else none
theorem ztZ(h:0<n*m):∀x,zln l at' n m i j=some x->0<=x/\x<n:=by
 intro x e;unfold zln at e;have:=zcV l (at'+7*i+j) h;split at e
 ·cases e;omega
 ·cases e
theorem zoZ{l:List Int}{at' m:Int}{ts:List D}{r c:Nat}{i:Nat}{S:Sto}{A B Mm:Option (Bool×D)}{y:Option (Bool×D)}{z:Option (Bool×D)}(ha:0<=at')(U:0<(ts.length:Int)*m)(hm:zci m=true)(hc:c<=1000):
  ∃J I,zeq (.one 9) zby (zaw 0 c) [~~~.scr l,~~~.int at',~~~.tup ts,A,B,~~~.int m,Mm,~~~.int i,some (true,.lst []),y,z] S
   = .nx [~~~.scr l,~~~.int at',~~~.tup ts,A,B,~~~.int m,Mm,~~~.int i,some (true,.lst (zeD c (zln l at' ts.length m i))),J,I] S:=by
 obtain⟨a,e,J,I,rfl⟩:=zeb (tg:=.one 9) (body:=zby) (ds:=zaw 0 c) (S:=S) (fun k ρ=>∃y z,ρ=[~~~.scr l,~~~.int at',~~~.tup ts,A,B,~~~.int m,Mm,~~~.int i,some (true,.lst (zeD k (zln l at' ts.length m i))),y,z]) (by
  rintro k d ρ hd ⟨y,z,rfl⟩;obtain⟨rfl,b⟩:=zc6 hd;have p:=zcj (l:=l) (S:=S) (show 0<=at'+7*(i:Int)+(k:Int)by omega) U;have pn:=zcV l (at'+7*(i:Int)+(k:Int)) U;refine⟨_,_,rfl,?_,~~~.int k,~~~(.int (zbt l (at'+7*i+k) (ts.length*m))),rfl⟩
  ·rw[zl6]
   by_cases h:zbt l (at'+7*(i:Int)+(k:Int)) (ts.length*m)<ts.length
   ·simp[zby,p,hm,h,zln,oD,show k<=100000 by omega]
   ·simp[zby,p,hm,h,zln,oD,show k<=100000 by omega])
  (ρ:=[~~~.scr l,~~~.int at',~~~.tup ts,A,B,~~~.int m,Mm,~~~.int i,some (true,.lst []),y,z]) ⟨y,z,rfl⟩
 exact⟨J,I,by simpa using e⟩
theorem zl3(ha:0<=at')(U:0<(ts.length:Int)*m)(hm:zci m=true)(J:0<=r)(I:r<=1000)(hc:0<=c)(a3:c<=1000):
  zcM [.scr l,.int at',.tup ts,.int r,.int c,.int m] S=.ok (flr r.toNat c.toNat (zln l at' ts.length m)) S:=by
 obtain⟨r,rfl⟩:=ycJ J;obtain⟨c,rfl⟩:=ycJ hc
 obtain⟨a,e,x1,x2,x3,x4,rfl⟩:=zeb (tg:=.one 7) (body:=zc2) (ds:=zaw 0 r) (S:=S) (fun k ρ=>∃x1 x2 x3 x4,ρ=[~~~.scr l,~~~.int at',~~~.tup ts,~~~.int r,~~~.int c,~~~.int m,some (true,.lst (zc5 k c (zln l at' ts.length m))),x1,x2,x3,x4]) (by
  rintro k d ρ hd ⟨x1,x2,x3,x4,rfl⟩;obtain⟨rfl,g⟩:=zc6 hd;obtain⟨f,b,e⟩:=zoZ (l:=l) (at':=at') (m:=m) (ts:=ts) (r:=r) (c:=c) (i:=k) (S:=S) (A:= ~~~.int r) (B:= ~~~.int c) (Mm:=some (true,.lst (zc5 k c (zln l at' ts.length m)))) (y:=x3) (z:=x4) ha U hm (by omega);refine⟨_,_,rfl,?_,~~~.int k,some (true,.lst (zeD c (zln l at' ts.length m k))),f,b,rfl⟩
  ·rw[ziG]
   simp[zc2,e,zem,show -1000000<=(c:Int)/\(c:Int)<=1000000 by omega,show k<=100000 by omega])
  (ρ:=[~~~.scr l,~~~.int at',~~~.tup ts,~~~.int r,~~~.int c,~~~.int m,some (true,.lst []),none,none,none,none]) ⟨none,none,none,none,rfl⟩
 simp at e;simp[zcM,zaj,zd0,e,flr,show -1000000<=(r:Int)/\(r:Int)<=1000000 by omega]
noncomputable abbrev plD(i j:Nat):D:=.tup [.int i,.int j]
noncomputable def zcs(r c:Nat):List D:=(List.range r).flatMap fun i=>(List.range c).map fun j=>plD i j
def ziu:zcs (k+1) c=zcs k c++(List.range c).map fun j=>plD k j:=by simp[zcs,ybS]
def zce(h:d∈zcs r c):∃i j,i<r/\j<c/\d=plD i j:=by
 simp only[zcs,yb5,ybd,yat]at h;obtain⟨i,hi,j,a,e⟩:=h;exact⟨i,j,hi,a,e.symm⟩
def zdO:(zcs r c).length=r*c:=by
 induction r with
 |zero=>simp[zcs]|succ k a=>rw[ziu,yap,a];simp[yct]
theorem zhn(h:1<=r):zb9 [flr r c g] S=.ok (.tup [.int r,.int c]) S:=by
 have e:=zec (c:=c) (g:=g) (i:=0) (r:=r) (by omega);simp[zb9,zaj,zgs,flr,e,zem,show 0<r by omega]
theorem zcr(h:1<=r)(I:r<=100)(J:c<=100):zaG [flr r c g] S=.ok (.lst (zcs r c)) S:=by
 have inner:∀(k:Nat) (y:Option (Bool×D)),k<r->∃a,zeq (.one 4) zcq (zaw 0 c) [~~~flr r c g,~~~.tup [.int r,.int c],some (true,.lst (zcs k c)),~~~.int k,y] S
   = .nx [~~~flr r c g,~~~.tup [.int r,.int c],some (true,.lst (zcs (k+1) c)),~~~.int k,a] S:=by
  intro k y i
  obtain⟨b,e,a,rfl⟩:=zeb (tg:=.one 4) (body:=zcq) (ds:=zaw 0 c) (S:=S) (fun j ρ=>∃y,ρ=[~~~flr r c g,~~~.tup [.int r,.int c],some (true,.lst (zcs k c++(List.range j).map fun j=>plD k j)),~~~.int k,y]) (by
   rintro j d ρ hd ⟨y,rfl⟩;obtain⟨rfl,l⟩:=zc6 hd
   have f:k*c+j<=100000:=by
    have:k*c<=100*100:=ybN (by omega) (by omega);omega
   refine⟨_,_,rfl,?_,~~~.int j,rfl⟩
   simp[zcq,ybS,zdO,f])
   (ρ:=[~~~flr r c g,~~~.tup [.int r,.int c],some (true,.lst (zcs k c)),~~~.int k,y]) ⟨y,by simp⟩
  refine⟨a,?_⟩;rw[e,ziu];simp
 obtain⟨b,e,x,y,rfl⟩:=zeb (tg:=.one 3) (body:=zdx) (ds:=zaw 0 r) (S:=S) (fun k ρ=>∃x y,ρ=[~~~flr r c g,~~~.tup [.int r,.int c],some (true,.lst (zcs k c)),x,y]) (by
  rintro k d ρ hd ⟨x,y,rfl⟩;obtain⟨rfl,i⟩:=zc6 hd;obtain⟨a,e⟩:=inner k y (by omega);refine⟨_,_,rfl,?_,~~~.int k,a,rfl⟩
  simp[zdx,e,show -1000000<=(c:Int)/\(c:Int)<=1000000 by omega])
  (ρ:=[~~~flr r c g,~~~.tup [.int r,.int c],some (true,.lst []),none,none]) ⟨none,none,rfl⟩
 simp at e;simp[zaG,zaj,zes,zhn h,e,show -1000000<=(r:Int)/\(r:Int)<=1000000 by omega]
def zbU(hi:i<r)(I:j<c):zao [flr r c g,plD i j] S=.ok (oD (g i j)) S:=by
 simp[zao,zaj,zeu,flr,plD,zcR,zec hi,zfI I,zem]
def zdH:zaB [.tup l,.int a,.int b] S=.ok (.bl (decide (a<=l.length/\(l.length:Int)<=b))) S:=by
 by_cases h1:a<=(l.length:Int)
 ·by_cases h2:(l.length:Int)<=b<;>simp[zaB,zaj,zcn,zgj,h1,h2]
 ·simp[zaB,zaj,zcn,zgj,h1]
theorem zij:zbK [.tup l,.tup k] S=.ok (.bl (decide (l.length=k.length))) S:=by
 simp[zbK,zaj,zdq,zdH];rw[<-Bool.decide_and,decide_eq_decide];omega
def zrU{α:Type}{xs:List α}{p:α->Bool}:zhT (xs.map fun x=>D.bl (p x))=some (xs.map p):=by
 induction xs with
 |nil=>rfl|cons x xs a=>simp[zhT,a]
theorem all_map{α:Type}{xs:List α}{p:α->Bool}:zsa [.lst (xs.map fun x=>D.bl (p x))]=some (.bl (xs.all p)):=by
 show Option.map _ (zhT _)=_;rw[zrU];simp[List.all_map]
@[simp] def zwp:eqD (oD a) (oD b)=some (.bl (decide (a=b))):=by
 cases a<;>cases b<;>simp[oD]
 ·rfl
 ·rfl
 ·rfl
@[simp] def zxA:zdF (oD a)=decide (a=none):=by cases a<;>simp[oD]
theorem zfV{l:List D}{n:Nat}{S:Sto}:zaB [.tup l,.int n,.int n] S=.ok (.bl (decide (l.length=n))) S:=by
 rw[zdH];congr 3;apply propext;omega
theorem zjU(h1:1<=r)(I:r<=1000):zdJ [flr r c g,flr r' c' h] S=.ok (.bl (decide (r'=r/\c'=c))) S:=by
 by_cases e:r'=r
 ·subst e
  have l:zfn (zc5 r' c g) (zc5 r' c' h)=(List.range r').map fun i=>.tup [zem c (g i),zem c' (h i)]:=by
   apply yby;intro i
   by_cases hi:i<r'
   ·have:i<(zfn (zc5 r' c g) (zc5 r' c' h)).length:=by rw[zfC];simp;omega
    obtain⟨x,y,k,j,m⟩:=zhc (yad this);rw[zec hi]at k j;cases k;cases j;rw[yad this,m];simp[hi]
   ·rw[ybc (by rw[zfC];simp;omega),ybc (by simp;omega)]
  have b:zbE (.tup [0,1]) zeY (eFn zbK [(zaa 0),(zaa 1)]) [none,none] (zfn (zc5 r' c g) (zc5 r' c' h)) S=.ok ((List.range r').map fun _=>.bl (decide (c=c'))) S:=by
   rw[l,ze3 (g:=fun _=>.bl (decide (c=c')))]
   ·simp
   ·intro d hd;simp only[yat,ybd]at hd;obtain⟨i,hi,rfl⟩:=hd;exact⟨_,rfl,by simp[zem,zij]⟩
  have f:zsa [.lst ((List.range r').map fun _=>.bl (decide (c=c')))]=some (.bl (decide (c'=c))):=by
   rw[all_map (p:=fun _=>decide (c=c'))]
   by_cases a:c=c'
   ·subst a;simp
   ·have:((List.range r').all fun _=>false)=false:=by
     cases r' with
     |zero=>omega|succ n=>simp[ybS]
    simp only[a,show ¬ c'=c from fun z=>a z.symm,decide_false,this]
  simp only[List.map_const',ybo]at b f;simp[zdJ,zaj,zeW,flr,zfV,b,f,show r'<=100000 by omega]
 ·simp[zdJ,zaj,zeW,flr,zfV,e]
noncomputable def zfA(g:Z1):D->Bool|.tup [.int i,.int j]=>(g i.toNat j.toNat).isSome|_=>false
def zhp(h:1<=r)(I:r<=100)(J:c<=100):zbn [flr r c g] S=.ok (.lst ((zcs r c).filter (zfA g))) S:=by
 have a:((zcs r c).filter (zfA g)).length<=100000:=by
  refine yak (ybi _ _) ?_;rw[zdO];have:r*c<=100*100:=ybN I J;omega
 have e:zbE (.one 0) (zaf zkW (eFn zao [(zaa 1),(zaa 0)]) (zad .non)) (zaa 0) [none,~~~flr r c g] (zcs r c) S=.ok ((zcs r c).filter (zfA g)) S:=by
  rw[zd2 (g:=id) (p:=zfA g)]
  ·simp
  ·intro d hd;obtain⟨i,j,hi,b,rfl⟩:=zce hd;refine⟨_,rfl,?_,fun _=>by simp⟩;simp[zbU hi b,zfA]
   cases g i j<;>rfl
 simp[zbn,zaj,zdp,zcr h I J,e,a]
theorem zhI{tg:Tg}{α:Type}(mk:List D->α->Env)(g:D->List D)(N:Nat):∀{ds:List D},(∀d∈ds,∀(L:List D) (x:α),L.length+(g d).length<=N->∃I U,tg.put (mk L x) d=some I/\body I S=.nx (mk (L++g d) U) S) →
  ∀(J:List D) (x0:α),J.length+(ds.flatMap g).length<=N->∃U,zeq tg body ds (mk J x0) S=.nx (mk (J++ds.flatMap g) U) S
 |[],_,J,x0,_=>⟨x0,by simp[zeq]⟩
 |d::ds,step,J,x0,a=>by
  rw[ybA,yap]at a;obtain⟨I,U,e,c⟩:=step d yay J x0 (by omega);obtain⟨x2,b⟩:=zhI mk g N (ds:=ds) (fun d hd=>step d (yas _ hd)) (J++g d) U (by rw[yap];omega);refine⟨x2,?_⟩;unfold zeq;rw[e];dsimp only;rw[c];dsimp only;rw[b,ybA,ycf]
def zkR{lo hi:Int}:(zaw lo hi).length=(hi-lo).toNat:=by unfold zaw;simp
def zuz(h1:d.fit 9=true)(h2:e.fit 9=true):eqD d e=some (.bl (zgW d e)):=by unfold eqD;rw[h1,h2];rfl
theorem zhK{α:Type}{g:α->List D}:∀{ds:List α},(∀d∈ds,(g d).length<=m)->(ds.flatMap g).length<=ds.length*m
 |[],_=>by simp
 |d::ds,h=>by
  have h1:=h d yay;have h2:=zhK (ds:=ds) fun d hd=>h d (yas _ hd)
  rw[ybA,yap,yar,yct];omega
def zrg(h:d.pl=true)(f:d.fit 9=true):neD d d=some (.bl false):=by
 unfold neD zgW;rw[f,(zkq d d h h).mpr rfl];rfl
def zrH(h:d.pl=true)(f:d.fit 9=true):eqD d d=some (.bl true):=by
 unfold eqD zgW;rw[f,(zkq d d h h).mpr rfl];rfl
structure TOk(ts:Z2):Prop where
 four:∀t∈ts,t.length=4
 le:ts.length<=100
noncomputable def zdu(ts:Z2)(n:Int)(s:Nat):Int:=(ts.getD n.toNat []).getD s 0
theorem zh5{ts:Z2}(ht:TOk ts){n:Int}(h0:0<=n)(h1:n<ts.length):atI (ts.map zah) n=some (.tup ([zdu ts n 0,zdu ts n 1,zdu ts n 2,zdu ts n 3].map D.int)):=by
 rw[zfP h0,yaw,yad (by omega)];have h4:=ht.four _ (ybe (show n.toNat<ts.length by omega))
 have e:ts.getD n.toNat []=ts[n.toNat]:=by rw[yaD,yad (by omega)];rfl
 unfold zdu;rw[e];generalize ts[n.toNat]=t at*
 match t,h4 with
 |[a,b,c,d],_=>rfl
def zek:zaT [.int i] S=.ok (.bl true) S:=by simp[zaT,zaj,zed,zgj]
def zi6:zaT [.non] S=.ok (.bl false) S:=by simp[zaT,zaj,zed,zgj]
def zcT(h:∀x,o=some x->0<=x/\x<ts.length):zbj [.tup ts,oD o] S=.ok (.bl o.isSome) S:=by
 cases o with
 |none=>simp[zbj,zaj,zcO,oD,zi6]|some x=>obtain⟨h0,h1⟩:=h x rfl;simp[zbj,zaj,zcO,oD,zek,h0,h1]
noncomputable def hp1:Fe:=zc9 leD ltD (zad (.int 0)) (zaf ixD (zag 1) (zad (.int 0))) (zaf ixD (zag 2) (zad (.int 0)))
noncomputable def hp2:Fe:=zc9 leD ltD (zad (.int 0)) (zaf ixD (zag 1) (zad (.int 1))) (zaf ixD (zag 2) (zad (.int 1)))
noncomputable def hpF:Fs:=(zac (sFz [1] (sIf (eOr (eUn zeP (eFn zaB [(zaa 1),(zad (.int 2)),(zad (.int 2))])) (eOr (eUn zeP (eFn zaT [(zaf ixD (zag 1) (zad (.int 0)))])) (eUn zeP (eFn zaT [(zaf ixD (zag 1) (zad (.int 1)))])))) (zac (sFz [] (zaJ (zad (.bl false)))) sNx) sNx))
  (zac (sFz [0] (zbd 2 false (eFn zb9 [(zaa 0)]))) (zac (sFz [] (zaJ (zgB hp1 hp2))) sNx)))
def zut:zew=hpF:=rfl
def zck(h1:1<=r):zay [flr r c g,.tup [.int i,.int j]] S=.ok (.bl (decide ((0<=i/\i<r)/\0<=j/\j<c))) S:=by
 have ht:zaB [.tup [.int i,.int j],.int 2,.int 2] S=.ok (.bl true) S:=by rw[zdH];simp
 have sz:=zhn (c:=c) (g:=g) (S:=S) h1
 have t1:∀x,hp1 [x,~~~.tup [.int i,.int j],~~~.tup [.int r,.int c]] S=.ok (.bl (decide (0<=i/\i<r))) S:=fun x=>by
  by_cases a:0<=i<;>simp[hp1,a]
 have b:∀x,hp2 [x,~~~.tup [.int i,.int j],~~~.tup [.int r,.int c]] S=.ok (.bl (decide (0<=j/\j<c))) S:=fun x=>by
  by_cases a:0<=j<;>simp[hp2,a]
 rw[Bool.decide_and];generalize decide (0<=i/\i<r)=d,decide (0<=j/\j<c)=f,flr r c g=e at*;simp only[zay,zaj,zut]
 cases d<;>simp[hpF,ht,zek,sz,t1,b]
noncomputable def InT(ts:Z2)(g:Z1):Prop:=∀i j x,g i j=some x->0<=x/\x<ts.length
noncomputable def ze0(ts:Z2)(r c:Nat)(g:Z1)(i j s:Nat):Option Int:=if i<r/\j<c then(g i j).map fun x=>zdu ts x s else none
theorem zfH{ts:Z2}{r c:Nat}{g:Z1}{i j s:Nat}{S:Sto}(ht:TOk ts)(I:InT ts g)(h1:1<=r)(hs:s<4):zaU [.tup (ts.map zah),flr r c g,plD i j,.int s] S=.ok (oD (ze0 ts r c g i j s)) S:=by
 unfold ze0
 by_cases h:i<r/\j<c
 ·have f:zay [flr r c g,plD i j] S=.ok (.bl true) S:=by rw[zck h1];congr 3;simp;omega
  have a:=zbU (g:=g) (S:=S) h.1 h.2;have b:=zcT (ts:=ts.map zah) (o:=g i j) (S:=S) (fun x d=>by simpa using I i j x d);rw[if_pos h]
  cases d:g i j with
  |none=>
   rw[d]at a b;simp only[oD]at a b;simp[zaU,zaj,zdV,f,a,b,oD]
  |some x=>
   obtain⟨x0,x1⟩:=I i j x d;rw[d]at a b;have e:=zh5 ht x0 x1
   have es:atI ([zdu ts x 0,zdu ts x 1,zdu ts x 2,zdu ts x 3].map D.int) (s:Int)=some (.int (zdu ts x s)):=by
    rw[zcR]
    match s,hs with
    |0,_=>rfl|1,_=>rfl|2,_=>rfl|3,_=>rfl
   simp only[oD]at a b;simp only[yav,List.map_nil]at e es;simp[zaU,zaj,zdV,f,a,b,oD,e,es]
 ·have f:zay [flr r c g,plD i j] S=.ok (.bl false) S:=by rw[zck h1];congr 3;simp;omega
  rw[if_neg h];simp[zaU,zaj,zdV,f,oD]
theorem zn3(ht:TOk ts)(I:InT ts g)(h1:1<=r):zb5 [.tup (ts.map zah),flr r c g,plD i j] S=.ok (.tup [oD (ze0 ts r c g i j 1),oD (ze0 ts r c g i (j+1) 3)]) S:=by
 have b:zaU [.tup (ts.map zah),flr r c g,.tup [.int i,.int j],.int 1] S=_:=zfH (i:=i) (j:=j) (s:=1) (S:=S) (c:=c) ht I h1 (by omega);have a:zaU [.tup (ts.map zah),flr r c g,.tup [.int i,.int ((j:Int)+1)],.int 3] S=_:=zfH (i:=i) (j:=j+1) (s:=3) (S:=S) (c:=c) ht I h1 (by omega);simp[zb5,zaj,zcY,plD,b,a]
theorem zlZ(ht:TOk ts)(I:InT ts g)(h1:1<=r):zbL [.tup (ts.map zah),flr r c g,plD i j] S=.ok (.tup [oD (ze0 ts r c g i j 2),oD (ze0 ts r c g (i+1) j 0)]) S:=by
 have b:zaU [.tup (ts.map zah),flr r c g,.tup [.int i,.int j],.int 2] S=_:=zfH (i:=i) (j:=j) (s:=2) (S:=S) (c:=c) ht I h1 (by omega);have a:zaU [.tup (ts.map zah),flr r c g,.tup [.int ((i:Int)+1),.int j],.int 0] S=_:=zfH (i:=i+1) (j:=j) (s:=0) (S:=S) (c:=c) ht I h1 (by omega);simp[zbL,zaj,zcz,plD,b,a]
noncomputable def cl2:Option Int->Option Int->Bool|some a,some b=>!decide (a=b)|_,_=>false
def zik:zc8 [.tup [oD a,oD b]] S=.ok (.bl (cl2 a b)) S:=by
 cases a<;>cases b
 all_goals simp[zc8,zaj,zfj,oD,cl2,zoC,zlR,znE,zgW,D.py,PyData.eqv]
noncomputable def clD(d:D)(s:Str):D:=.tup [d,.str s]
def clG(ts:Z2)(r c:Nat)(g:Z1):D->List D
 |.tup [.int i,.int j]=>(if cl2 (ze0 ts r c g i.toNat j.toNat 1) (ze0 ts r c g i.toNat (j.toNat+1) 3)then[clD (.tup [.int i,.int j]) "east"]else[])++(if cl2 (ze0 ts r c g i.toNat j.toNat 2) (ze0 ts r c g (i.toNat+1) j.toNat 0)then[clD (.tup [.int i,.int j]) "south"]else[])
 |_=>[]
def clL(ts:Z2)(r c:Nat)(g:Z1):List D:=(zcs r c).flatMap (clG ts r c g)
def zrQ:(clG ts r c g d).length<=2:=by
 unfold clG;split
 ·rw[yap];split<;>split<;>simp
 ·simp
theorem zjw(I:r<=100)(J:c<=100):(clL ts r c g).length<=20000:=by
 refine yak (zhK fun d _=>zrQ) ?_;rw[zdO];have:r*c<=100*100:=ybN I J;omega
theorem zf1(ht:TOk ts)(J:InT ts g)(h1:1<=r)(I:r<=100)(U:c<=100):zbM [.tup (ts.map zah),flr r c g] S=.ok (.lst (clL ts r c g)) S:=by
 obtain⟨k,e⟩:=zhI (tg:=.one 3) (body:=zeB) (S:=S) (fun L (x:Option (Bool×D))=>[~~~.tup (ts.map zah),~~~flr r c g,some (true,.lst L),x]) (clG ts r c g) 50000 (ds:=zcs r c) (by
  intro d hd L x m;obtain⟨i,j,hi,l,rfl⟩:=zce hd;refine⟨_,~~~plD i j,rfl,?_⟩;have f:=zn3 (i:=i) (j:=j) (S:=S) (c:=c) ht J h1;have b:=zlZ (i:=i) (j:=j) (S:=S) (c:=c) ht J h1
  have h:L.length<=100000:=by omega
  have a:L.length+1<=100000:=by omega
  simp only[plD]at f b
  cases a1:cl2 (ze0 ts r c g i j 1) (ze0 ts r c g i (j+1) 3)<;>cases a2:cl2 (ze0 ts r c g i j 2) (ze0 ts r c g (i+1) j 0)<;>simp[zeB,plD,f,b,zik,a1,a2,clG,clD,h,a]) [] none (by have:=zjw (ts:=ts) (g:=g) I U;unfold clL at this;simp only[List.length_nil];omega)
 simp at e;simp[zbM,zaj,zgu,zcr h1 I U,e,clL]
noncomputable def sdL:List (Nat×Nat):=[(1,1),(1,2),(2,1),(2,2),(2,2),(1,4),(2,3),(3,2),(3,1),(2,3)]
theorem zl0(I:0<=at'):∃r c:Nat,1<=r/\r<=3/\1<=c/\c<=4/\r*c<=6/\zcL [.scr l,.int at'] S=.ok (.tup [.int r,.int c]) S:=by
 have p:=zcj (l:=l) (S:=S) (many:=10) I (by decide);have n:=zcV l at' (many:=10) (by decide);generalize zbt l at' 10=q at*
 have a:q.toNat<sdL.length:=by show q.toNat<10;omega
 have e:atI (sdL.map fun p:Nat×Nat=>D.tup [.int p.1,.int p.2]) q=some (.tup [.int sdL[q.toNat].1,.int sdL[q.toNat].2]):=by rw[zfP n.1,yaw,yad a];rfl
 obtain⟨a1,a2,f,d,b⟩:=(by decide:∀p∈sdL,1<=p.1/\p.1<=3/\1<=p.2/\p.2<=4/\p.1*p.2<=6) _ (ybe a);refine⟨_,_,a1,a2,f,d,b,?_⟩;generalize (sdL[q.toNat])=y at*;simp only[sdL,yav,List.map_nil]at e;simp at e;simp[zcL,zaj,zdY,p,e]
noncomputable def unI:D->Int|.int i=>i|_=>0
def zy5:D->List D|.tup l=>l|_=>[]
noncomputable def zdU:Fs:=
  (zac (sFz [] (zbd 1 false (zaf ixD (zag 0) (zad (.int 0)))))
  (zac (sFz [] (zbd 2 false (zaf ixD (zag 0) (zad (.int 1)))))
  (zac (sFz [2,1,1,2] (zaJ (zee [(zcg [(zaf zlm (zag 1) (zad (.int 1))),(zaa 2)]),(zcg [(zaa 1),(zaf zlm (zag 2) (zad (.int 1)))]),(zcg [(zaa 1),(zaf zbG (zag 2) (zad (.int 1)))]),(zcg [(zaf zbG (zag 1) (zad (.int 1))),(zaa 2)])])))
  sNx)))
noncomputable def zcI:List S2.D->Sto->Out S2.D:=zaI 3 true zdU
noncomputable def zcZ:Fs:=
  (zac (sFz [0,1] (zbd 2 false (eFn zao [(zaa 0),(zaa 1)])))
  (zac (sFz [1,0,2] (zaJ (zb2 1 (.one 0) (zbe (eFn zcI [(zaa 1)])) (zgB (eFn zay [(zaa 1),(zaa 0)]) (zaf eqD (eFn zao [(zaa 1),(zaa 0)]) (zag 2))) (zaa 0) [0,2])))
  sNx))
noncomputable def zb6:List S2.D->Sto->Out S2.D:=zaI 3 true zcZ
noncomputable def zcQ:Fs:=
  (zac (sFz [] (sIf (ziL 2 (zaa 5)) (zac (sFz [] (zkM 2 5)) (zac (sFz [5] (zif 3 (zaa 5))) sNx)) sNx)) sNx)
noncomputable def zfO:Fs:=
  (zac (sFz [] (zr0 4 3)) (zac (sFz [0,4] (zgS (.one 5) (zbe (eFn zb6 [(zaa 0),(zaa 4)])) zcQ)) sNx))
noncomputable def zng:Fs:=
  (zac (sFz [0,1] (zjS (eFn zaq [(zaa 0),(zaa 1)])))
  (zac (sFz [] (zbd 2 true (zg8 1)))
  (zac (sFz [1] (zbd 3 true (zee [(zaa 1)])))
  (zac (sFz [] (zjR 100000 (zaf gtD (zax zeg [(zag 3)]) (zad (.int 0))) zfO))
  (zac (sFz [2] (zaJ (zk8 2)))
  sNx)))))
noncomputable def zfq:List S2.D->Sto->Out S2.D:=zaI 6 true zng
noncomputable def zjq:Fs:=
  (zac (sFz [0,0] (zbd 1 true (zb2 1 (.one 0) (zbe (eFn zaG [(zaa 0)])) zeY (eFn zfq [(zaa 1),(zaa 0)]) [0])))
  (zac (sFz [1,0] (zaJ (zb2 2 (.tup [0,1]) (zk7 (zaa 1) (eFn zaG [(zaa 0)])) (zaf eqD (zaf ixD (zag 0) (zad (.int 0))) (zag 1)) (zaa 0) [])))
  sNx))
noncomputable def zhu:List S2.D->Sto->Out S2.D:=zaI 2 true zjq
noncomputable def zbQ:Fs:=
  (zac (sFz [1] (zfb "Painter" "tiles" (zaa 0) (zaa 1)))
  (zac (sFz [2] (zfb "Painter" "now" (zaa 0) (zaa 2)))
  (zac (sFz [] (zgF "Painter" "before" 0))
  (zac (sFz [] (zgF "Painter" "after" 0))
  sNx))))
noncomputable def zaM:List S2.D->Sto->Out S2.D:=zaI 3 false zbQ
noncomputable def zcF:Fs:=
  (zac (sFz [] (zaJ (ze6 "Painter" "now" (zaa 0))))
  sNx)
noncomputable def zau:List S2.D->Sto->Out S2.D:=zaI 1 false zcF
noncomputable def zb1:Fs:=
  (zac (sFz [] (zaJ (eFn zbM [(ze6 "Painter" "tiles" (zaa 0)),(ze6 "Painter" "now" (zaa 0))])))
  sNx)
noncomputable def zar:List S2.D->Sto->Out S2.D:=zaI 1 true zb1
noncomputable def zcE:Fs:=
  (zac (sFz [] (zaJ (zcg [(zgN "Painter" "before" 0),(zgN "Painter" "after" 0)])))
  sNx)
noncomputable def zaD:List S2.D->Sto->Out S2.D:=zaI 1 false zcE
noncomputable def za6:Fs:=
  (zac (sFz [] (sIf (zaf neD (zag 1) (ze6 "Painter" "now" (zaa 0))) (zac (sFz [] (zhm "Painter" "before" 0 (zps "Painter" "now" (zjZ 0)))) (zac (sFz [] (zgF "Painter" "after" 0)) (zac (sFz [1] (zfb "Painter" "now" (zaa 0) (zaa 1))) sNx))) sNx))
  sNx)
noncomputable def za3:List S2.D->Sto->Out S2.D:=zaI 2 false za6
noncomputable def zbP:Fs:=
  (zac (sFz [1,2] (zjS (zaE "Painter" "change_to" za3 (zaa 0) [(eFn zaF [(ze6 "Painter" "tiles" (zaa 0)),(ze6 "Painter" "now" (zaa 0)),(zaa 1),(zaa 2)])])))
  sNx)
noncomputable def zaL:List S2.D->Sto->Out S2.D:=zaI 3 false zbP
noncomputable def zb8:Fs:=
  (zac (sFz [] (sIf (zaf eqD (zgN "Painter" "before" 0) (zad (.int 0))) (zac (sFz [] (sRz "Nothing" [(zad (.str "there is no change to take back"))])) sNx) sNx))
  (zac (sFz [] (zhm "Painter" "after" 0 (zps "Painter" "now" (zjZ 0))))
  (zac (sFz [] (zfb "Painter" "now" (zaa 0) (zk9 "Painter" "before" 0)))
  sNx)))
noncomputable def zaO:List S2.D->Sto->Out S2.D:=zaI 1 false zb8
section
variable{ρ:Env}{S:Sto}{f g:Fe}{a:Fs}
@[simp] def zyS:zr5 w C (.exc c)=(w c C).map .bl:=(rfl)
end
noncomputable abbrev Gf:=Nat->Nat->Option Int
noncomputable def ov(g h:Gf):Gf:=fun i j=>(h i j).or (g i j)
noncomputable def un(g h:Gf):Gf:=fun i j=>if(h i j).isSome then none else g i j
noncomputable def tsC:List (List Int):=(List.range 16).map fun k:Nat=>[3*((k:Int) / 8 % 2)+(k:Int) / 4 % 2,3*((k:Int) / 4 % 2)+(k:Int) / 2 % 2,3*((k:Int) % 2)+(k:Int) / 2 % 2,3*((k:Int) / 8 % 2)+(k:Int) % 2]
def zwm:zci 8=true:=by decide
def zgI{S:Sto}:zdK [] S=.ok (.tup (tsC.map zah)) S:=by kernel_rfl
theorem zkx{α:Type}{tg:Tg}{elt:Fe}{ag:Env}{S:Sto}{mk out:α->D}:∀{xs:List α},(∀x∈xs,∃I,tg.put ag (mk x)=some I/\elt I S=.ok (out x) S)->zbE tg zeY elt ag (xs.map mk) S=.ok (xs.map out) S
 |[],_=>rfl|x::xs,h=>by
  obtain⟨I,d,c⟩:=h x yay;have a:=zkx (xs:=xs) fun y b=>h y (yas _ b)
  rw[yav,yav];unfold zbE;rw[d];simp[c,a]
noncomputable abbrev Kf:=Nat->Nat->Int
noncomputable abbrev someK(K:Kf):Nat->Nat->Option Int:=fun i j=>some (K i j)
noncomputable def zt0(K:Kf):Kf:=fun i j=>8*K i j+4*K i (j+1)+2*K (i+1) (j+1)+K (i+1) j
def zfY{l:List Int}{at':Int}{r c:Nat}{S:Sto}(U:0<=at')(I:r<=100)(J:c<=100):zbv [.scr l,.int at',.int r,.int c] S=.ok (flr (r+1) (c+1) (someK fun i j=>zbt l (at'+8*i+j) 2)) S:=by
 have row:∀(i:Nat),zbE (.one 0) zeY (eFn zaz [(zaa 3),(zaf zbG (zaf zbG (zag 1) (zaf zff (zad (.int 8)) (zag 2))) (zag 0)),(zad (.int 2))]) [none,~~~.int at',~~~.int i,~~~.scr l] (zaw 0 ((c:Int)+1)) S=.ok (zeD (c+1) fun j=>some (zbt l (at'+8*i+j) 2)) S:=by
  intro i
  have m:zaw 0 ((c:Int)+1)=(List.range (c+1)).map fun j:Nat=>D.int j:=by
   unfold zaw;rw[show((c:Int)+1-0).toNat=c+1 by omega];simp
  rw[m];refine zkx fun j _=>⟨_,rfl,?_⟩
  simp[zwm,zcj (show 0<=at'+8*(i:Int)+(j:Int)by omega) (show(0:Int)<2 by omega),oD]
 obtain⟨g,e,x,rfl⟩:=zeb (tg:=.one 5) (body:=zbC) (ds:=zaw 0 ((r:Int)+1)) (S:=S) (fun k ρ=>∃x,ρ=[~~~.scr l,~~~.int at',~~~.int r,~~~.int c,some (true,.lst (zc5 k (c+1) (someK fun i j=>zbt l (at'+8*i+j) 2))),x]) (by
  rintro k d ρ hd ⟨x,rfl⟩;obtain⟨rfl,f⟩:=zc6 hd;refine⟨_,_,rfl,?_,~~~.int k,rfl⟩;have e:=row k
  have h:k<=100000:=by omega
  have b:c+1<=100000:=by omega
  have hlen:(zeD (c+1) fun j=>some (zbt l (at'+8*k+j) 2)).length=c+1:=zd3;have a:(zc5 k (c+1) (someK fun i j=>zbt l (at'+8*i+j) 2)).length=k:=zdl;rw[ziG];unfold zem;show zbC _ S=.nx [_,_,_,_,some (true,.lst (_++[.tup (zeD (c+1) fun j=>some (zbt l (at'+8*k+j) 2))])),_] S;generalize (zeD (c+1) fun j=>some (zbt l (at'+8*k+j) 2))=A,zc5 k (c+1) (someK fun i j=>zbt l (at'+8*i+j) 2)=B at*
  simp[zbC,e,h,b,hlen,a,show -1000000<=(c:Int)+1/\(c:Int)+1<=1000000 by omega])
  (ρ:=[~~~.scr l,~~~.int at',~~~.int r,~~~.int c,some (true,.lst []),none]) ⟨none,rfl⟩
 have f:(zaw 0 ((r:Int)+1)).length=r+1:=by rw[zim];omega
 rw[f]at e;unfold flr;generalize zc5 (r+1) (c+1) (someK fun i j=>zbt l (at'+8*i+j) 2)=B at*;simp[zbv,zaj,zc0,e,show -1000000<=(r:Int)+1/\(r:Int)+1<=1000000 by omega]
noncomputable def sh1:D->Bool|.non=>true|.bl _=>true|.int _=>true|.str _=>true|.tup _=>true|.lst _=>true|_=>false
def sh2:D->Bool|.tup l=>l.all sh1|d=>sh1 d
def zyg(c f:Str):Out D->Out D|.ok d S=>(match zhJ c f d S with|some r=>.ok r S|none=>.bad)|.exc c S=>.exc c S|.bad=>.bad
noncomputable def ziB(G:List D->Sto->Out D)(d:D):Out (List D)->Out D|.ok ds S=>G (d::ds) S|.exc c S=>.exc c S|.bad=>.bad
def zuj(c m:Str)(G:List D->Sto->Out D)(fs:List Fe)(ρ:Env):Out D->Out D|.ok d S=>if zbT c m d S then ziB G d (zap fs ρ S)else .bad|.exc c S=>.exc c S|.bad=>.bad
noncomputable def zu6(n:Nat):Out D->Out D|.ok r S=>(match r with|.non=>.ok (.ref n) S|_=>.bad)|.exc c S=>.exc c S|.bad=>.bad
noncomputable def kMk(c:Str)(I:List D)(G:List D->Sto->Out D):Out (List D)->Out D|.ok ds S=>zu6 S.length (G (.ref S.length::(ds++I)) (S++[⟨c,[]⟩]))|.exc c S=>.exc c S|.bad=>.bad
def zoO(c f:Str)(I:D):Out D->Out D|.ok d S=>(match zkb I,zhY c f d S with|some k,some (_,_,ds)=>.ok (.bl (zbD k ds).isNone) S|_,_=>.bad)|.exc c S=>.exc c S|.bad=>.bad
noncomputable def zyb(c f:Str)(fo:Fe)(ρ:Env):Out D->Out D|.ok d S=>zoO c f d (fo ρ S)|.exc c S=>.exc c S|.bad=>.bad
def zye(c f:Str)(o:Option NK):Out D->Out D|.ok d S=>(match o,zhY c f d S with|some k,some (_,_,ds)=>(match zbD k ds with|some r=>.ok r S|none=>.bad)|_,_=>.bad)|.exc c S=>.exc c S|.bad=>.bad
section
variable{ρ:Env}{S:Sto}{f g h k:Fe}
@[simp] def zxf:ze6 c x f ρ S=zyg c x (f ρ S):=by unfold ze6;cases f ρ S<;>rfl
@[simp] def zzS:zyg c x (.ok d S)=(match zhJ c x d S with|some r=>.ok r S|none=>.bad):=(rfl)
@[simp] def zvk:zaE c m G f fs ρ S=zuj c m G fs ρ (f ρ S):=by
 unfold zaE
 cases f ρ S with
 |ok d S1=>
  show(if zbT c m d S1 then(zap fs ρ S1).bind fun ds S2=>G (d::ds) S2 else .bad)=(if zbT c m d S1 then ziB G d (zap fs ρ S1)else .bad)
  cases zap fs ρ S1<;>rfl
 |exc c S=>rfl|bad=>rfl
@[simp] def zxQ:zuj c m G fs ρ (.ok d S)=if zbT c m d S then ziB G d (zap fs ρ S)else .bad:=(rfl)
@[simp] def zv0:ziB G d (.ok ds S)=G (d::ds) S:=(rfl)
@[simp] def zy0:eMk c I G fs ρ S=kMk c I G (zap fs ρ S):=by
 unfold eMk
 cases zap fs ρ S with
 |ok ds S1=>
  show((G (.ref S1.length::(ds++I)) (S1++[⟨c,[]⟩])).bind fun r S2=>match r with|.non=>.ok (.ref S1.length) S2|_=>.bad)=zu6 S1.length (G (.ref S1.length::(ds++I)) (S1++[⟨c,[]⟩]))
  cases G (.ref S1.length::(ds++I)) (S1++[⟨c,[]⟩])<;>rfl
 |exc c S=>rfl|bad=>rfl
@[simp] def zAy:kMk c I G (.ok ds S)=zu6 S.length (G (.ref S.length::(ds++I)) (S++[⟨c,[]⟩])):=(rfl)
@[simp] def zzJ:zu6 n (.ok .non S)=.ok (.ref n) S:=(rfl)
@[simp] def zxc:zpS c x f g ρ S=zyb c x g ρ (f ρ S):=by
 unfold zpS
 cases f ρ S with
 |ok d S1=>
  show((g ρ S1).bind fun d' S2=>match zkb d,zhY c x d' S2 with|some k,some (_,_,ds)=>.ok (.bl (zbD k ds).isNone) S2|_,_=>.bad)=zoO c x d (g ρ S1)
  cases g ρ S1<;>rfl
 |exc c S=>rfl|bad=>rfl
@[simp] def zzI:zyb c x g ρ (.ok d S)=zoO c x d (g ρ S):=(rfl)
@[simp] def zxP:zoO c x I (.ok d S)=(match zkb I,zhY c x d S with|some k,some (_,_,ds)=>.ok (.bl (zbD k ds).isNone) S|_,_=>.bad):=(rfl)
@[simp] def zxe:zla c x f i ρ S=zye c x (zlo ρ i) (f ρ S):=by unfold zla;cases f ρ S<;>rfl
@[simp] def zzP:zye c x o (.ok d S)=(match o,zhY c x d S with|some k,some (_,_,ds)=>(match zbD k ds with|some r=>.ok r S|none=>.bad)|_,_=>.bad):=(rfl)
end
noncomputable def wOb(T Gd I:D)(b:Bool)(ds:List (D×D)):Ob:=⟨"Ways",[("tiles",false,T),("ground",false,Gd),("size",false,I),("is_round",false,.bl b),("known",true,.dic ds)]⟩
def ztY(o:Option Int):oDn o=oD o:=by cases o<;>rfl
structure WAt(S:Sto)(n:Nat)(ts:Z2)(gr:Z4)(r c:Nat)(b:Bool)(ds:List (D×D)):Prop where
 at_:S[n]?=some (wOb (.tup (ts.map zah)) (.lst (gr.map oD)) (.tup [.int r,.int c]) b ds)
section
variable{S:Sto}{n:Nat}{ts:Z2}{gr:Z4}{r c:Nat}{b:Bool}{ds:List (D×D)}
theorem WAt.tiles(h:WAt S n ts gr r c b ds):zhJ "Ways" "tiles" (.ref n) S=some (.tup (ts.map zah)):=by
 unfold zhJ;dsimp only;rw[h.at_];rfl
theorem WAt.ground(h:WAt S n ts gr r c b ds):zhJ "Ways" "ground" (.ref n) S=some (.lst (gr.map oD)):=by
 unfold zhJ;dsimp only;rw[h.at_];rfl
theorem WAt.size(h:WAt S n ts gr r c b ds):zhJ "Ways" "size" (.ref n) S=some (.tup [.int r,.int c]):=by
 unfold zhJ;dsimp only;rw[h.at_];rfl
def WAt.round(h:WAt S n ts gr r c b ds):zhJ "Ways" "is_round" (.ref n) S=some (.bl b):=by
 unfold zhJ;dsimp only;rw[h.at_];rfl
theorem WAt.known(h:WAt S n ts gr r c b ds):zhY "Ways" "known" (.ref n) S=some (n,wOb (.tup (ts.map zah)) (.lst (gr.map oD)) (.tup [.int r,.int c]) b ds,ds):=by
 unfold zhY;dsimp only;rw[h.at_];rfl
def WAt.meth(h:WAt S n ts gr r c b ds)(m:Str)(hm:(m=="tiles")=false/\(m=="ground")=false/\(m=="size")=false/\(m=="is_round")=false/\(m=="known")=false):zbT "Ways" m (.ref n) S=true:=by
 unfold zbT;dsimp only;rw[h.at_];obtain⟨h1,h2,d,h4,a⟩:=hm;simp[wOb,yaA,h1,h2,d,h4,a]
def WAt.len(h:WAt S n ts gr r c b ds):n<S.length:=(yal.mp h.at_).1
def WAt.put(h:WAt S n ts gr r c b ds)(I:List (D×D)):WAt (S.set n (wOb (.tup (ts.map zah)) (.lst (gr.map oD)) (.tup [.int r,.int c]) b I)) n ts gr r c b I:=⟨by rw[yam h.len]⟩
def zaR(s:Z4):D:=.tup (s.map oD)
def znX:zkb (.tup [.int k,zaR s])=some (k,s):=by
 have:zaR s=.tup (s.map oDn):=by unfold zaR;rw[show oDn=oD from funext ztY]
 rw[this];exact zeQ (k,s)
theorem zko{α:Type}{a:α}:∀m:Nat,(List.replicate m [a]).flatten=List.replicate m a
 |0=>rfl|m+1=>by rw[yba,ybx,zko m,yba];rfl
theorem zeh(h:WAt S n ts gr r c b ds)(I:c<=100):zaX [.ref n] S=.ok (zaR (List.replicate (c+2) none)) S:=by
 have e:zff (.tup [.non]) (.int ((c:Int)+2))=some (zaR (List.replicate (c+2) none)):=by
  show(if _ then _ else _)=_;rw[if_pos (by simp;omega),show((c:Int)+2).toNat=c+2 by omega,zko];simp[zaR,oD]
 simp[zaX,zaj,zb0,h.size,e]
theorem zfo{k:Nat}(h:WAt S n ts gr r c b ds)(I:1<=c):zaY [.ref n,.int k] S=.ok (.bl (decide ((k+1) % c=0))) S:=by
 have e:(((k:Int)+1) % (c:Int))=(((k+1) % c:Nat):Int):=by rw[Int.natCast_emod];rfl
 have a:(((k:Int)+1) % (c:Int)=0)=((k+1) % c=0):=propext (by rw[e];omega);simp[zaY,zaj,zcC,h.size,show 0<c from I,a]
def crO(ts:Z2)(c k:Nat)(s:Z4)(x:Int):Option Int:=if k % c=0 then some (zdu ts x 3)else(s.getLastD none)
def znv(ts:Z2)(L c:Nat)(b:Bool)(k:Nat)(s:Z4)(x:Int):List (Option Int):=
 (if(k+1) % c=0 then none else some (zdu ts x 1))::((s.drop 2).dropLast++[if L<=k+c then none else some (zdu ts x 2),if b&&!decide ((k+1) % c=0)then crO ts c k s x else none])
def tl(ts:Z2)(x:Int):D:=.tup [.int (zdu ts x 0),.int (zdu ts x 1),.int (zdu ts x 2),.int (zdu ts x 3)]
noncomputable def okO:Option Int->Int->Bool|none,_=>true|some a,y=>decide (a=y)
def znF(ts:Z2)(c:Nat)(b:Bool)(k:Nat)(s:Z4)(x:Int):Bool:=
 okO (s.getD 0 none) (zdu ts x 3)&&okO (s.getD 1 none) (zdu ts x 0)&&(!b||!decide ((k+1) % c=0)||decide (some (zdu ts x 1)=crO ts c k s x))
def zih:zf4 [oD o,.int y] S=.ok (.bl (okO o y)) S:=by
 cases o<;>simp[zf4,zaj,zjp,oD,okO]
theorem zmP(h:s≠[]):atI (s.map oD) (-1)=some (oD (s.getLastD none)):=by
 have a:0<s.length:=List.length_pos_iff.mpr h;unfold atI ixN;rw[yaf,if_neg (by omega),if_pos (by omega)];show(s.map oD)[(-1+(s.length:Int)).toNat]?=_;rw[show(-1+(s.length:Int)).toNat=s.length-1 by omega,yaw,List.getLastD_eq_getLast?,List.getLast?_eq_getElem?,yad (by omega)];rfl
theorem zdB{k:Nat}{s:Z4}(h:WAt S n ts gr r c b ds)(I:1<=c)(hs:s.length=c+2):zat [.ref n,.int k,zaR s,tl ts x] S=.ok (oD (crO ts c k s x)) S:=by
 have e:((k:Int) % (c:Int))=((k % c:Nat):Int):=by rw[Int.natCast_emod]
 have a:((k:Int) % (c:Int)=0)=(k % c=0):=propext (by rw[e];omega);have d:=zmP (s:=s) (by rintro rfl;simp at hs)
 by_cases z:k % c=0
 ·simp[zat,zaj,za5,h.size,show 0<c from I,a,z,crO,tl,oD]
 ·simp[zat,zaj,za5,h.size,show 0<c from I,a,z,crO,zaR,d]
theorem zrL{α:Type}{l:List α}(h:3<=l.length):zej l (some 2) (some (-1))=(l.drop 2).dropLast:=by
 unfold zej
 have b:HT.sIx l.length 0 (some 2)=2:=by
  unfold HT.sIx;simp;omega
 have a:HT.sIx l.length l.length (some (-1))=l.length-1:=by
  unfold HT.sIx;simp;omega
 rw[b,a,ycV,ycn];congr 1
noncomputable def sb6:Fe:=eIf (zaa 4) (zad .non) (zaf ixD (zag 3) (zad (.int 1)))
noncomputable def sb7:Fe:=eIf (zaa 5) (zad .non) (zaf ixD (zag 3) (zad (.int 2)))
noncomputable def sb8:Fe:=eIf (zgB (ze6 "Ways" "is_round" (zaa 0)) (eUn zeP (zaa 4))) (zaE "Ways" "colour_round" zat (zaa 0) [(zaa 1),(zaa 2),(zaa 3)]) (zad .non)
noncomputable def sbF:Fs:=(zac (sFz [1] (zbd 4 false (zaE "Ways" "ends_row" zaY (zaa 0) [(zaa 1)])))
  (zac (sFz [] (zbd 5 false (zaf geD (zaf zbG (zag 1) (zaf ixD (ze6 "Ways" "size" (zaa 0)) (zad (.int 1)))) (zax zeg [(ze6 "Ways" "ground" (zaa 0))]))))
  (zac (sFz [4] (zbd 6 false sb6)) (zac (sFz [5] (zbd 7 false sb7)) (zac (sFz [4,1,2,3] (zbd 8 false sb8))
  (zac (sFz [6,7,8] (zaJ (zaf zbG (zaf zbG (zcg [(zaa 6)]) (eSl (zag 2) (some (zad (.int 2))) (some (eUn zrf (zad (.int 1)))))) (zcg [(zaa 7),(zaa 8)])))) sNx))))))
def zs7:zbO=sbF:=rfl
def zyn(h1:ρ[i]?=some (~~~.bl bb))(h2:ρ[j]?=some (~~~.tup l))(I:atI l q=some d):eIf (zaa i) (zad .non) (zaf ixD (zag j) (zad (.int q))) ρ S=.ok (if bb then .non else d) S:=by
 cases bb<;>simp[h1,h2,I]
theorem zz6(h:WAt S n ts gr r c b ds)(I:1<=c)(hs:s.length=c+2)(h0:ρ[0]?=some (~~~.ref n))(h1:ρ[1]?=some (~~~.int k))(h2:ρ[2]?=some (~~~zaR s))(J:ρ[3]?=some (~~~tl ts x))(h4:ρ[4]?=some (~~~.bl bb)):
  sb8 ρ S=.ok (if b&&!bb then oD (crO ts c k s x)else .non) S:=by
 have d:=zdB (k:=k) (s:=s) (x:=x) h I hs;have a:=h.meth "colour_round" (by decide +kernel);generalize tl ts x=tt,zaR s=e at*;cases b
 ·simp[sb8,h0,h.round]
 ·cases bb<;>simp[sb8,h0,h1,h2,J,h4,h.round,a,d]
theorem zfW{k:Nat}{s:Z4}(h:WAt S n ts gr r c b ds)(I:1<=c)(J:c<=100)(hs:s.length=c+2):zbf [.ref n,.int k,zaR s,tl ts x] S=.ok (zaR (znv ts gr.length c b k s x)) S:=by
 have z:=zfo (k:=k) h I;have p:=h.meth "ends_row" (by decide +kernel);have y:((gr.length:Int)<=(k:Int)+(c:Int))=(gr.length<=k+c):=propext (by omega)
 have g:zej (s.map oD) (some 2) (some (-1))=((s.drop 2).dropLast).map oD:=by
  rw[zrL (by rw[yaf];omega),List.map_dropLast,List.map_drop]
 have w:((s.drop 2).dropLast).length<=100:=by rw[ycZ,ycn,hs];omega
 have B:=fun(ρ:Env) (h4:ρ[4]?=some (~~~(.bl (decide ((k+1) % c=0))))) (e:ρ[3]?=some (~~~tl ts x))=>(show sb6 ρ S=_ from zyn (S:=S) (i:=4) (j:=3) (q:=1) (d:=.int (zdu ts x 1)) h4 e rfl)
 have A:=fun(ρ:Env) (h4:ρ[5]?=some (~~~(.bl (decide (gr.length<=k+c))))) (e:ρ[3]?=some (~~~tl ts x))=>(show sb7 ρ S=_ from zyn (S:=S) (i:=5) (j:=3) (q:=2) (d:=.int (zdu ts x 2)) h4 e rfl)
 have l:=fun(ρ:Env)=>zz6 (k:=k) (s:=s) (x:=x) (bb:=decide ((k+1) % c=0)) (ρ:=ρ) h I hs
 have f:zaR (znv ts gr.length c b k s x)=.tup ([if decide ((k+1) % c=0)then .non else .int (zdu ts x 1)]++((s.drop 2).dropLast).map oD++[if decide (gr.length<=k+c)then .non else .int (zdu ts x 2),if b&&!decide ((k+1) % c=0)then oD (crO ts c k s x)else .non]):=by
  unfold znv zaR
  by_cases o:(k+1) % c=0<;>by_cases m:gr.length<=k+c<;>cases b<;>simp[o,m,oD]
 rw[f];clear f;have a:zaR s=.tup (s.map oD):=rfl;rw[a]at l ⊢;generalize oD (crO ts c k s x)=cr at*;generalize ((s.drop 2).dropLast)=M at g w ⊢;generalize s.map oD=C,tl ts x=tt,(if decide ((k+1) % c=0)then D.non else .int (zdu ts x 1))=d6,(if decide (gr.length<=k+c)then D.non else .int (zdu ts x 2))=d7,(if b&&!decide ((k+1) % c=0)then cr else .non)=d8 at*
 have v:1+M.length<=100000:=by omega
 have u:M.length+1+2<=100000:=by omega
 have t:M.length+1+1+1<=100000:=by omega
 simp only[zbf,zaj,zs7];simp[sbF,h.size,h.ground,p,z,y,B,A,l,g,v,u,t]
end
noncomputable def zmG(ts:Z2):Option Int->List Int|none=>(List.range ts.length).map fun(i:Nat)=>(i:Int)|some x=>[x]
theorem zmF(ho:∀x,o=some x->0<=x/\x<ts.length):∀x∈zmG ts o,0<=x/\x<ts.length:=by
 intro x a
 cases o with
 |none=>
  obtain⟨i,hi,rfl⟩:=yat.mp a;have:=ybd.mp hi;omega
 |some y=>rw[yaI.mp a];exact ho y rfl
section
variable{S:Sto}{n:Nat}{ts:Z2}{gr:Z4}{r c:Nat}{b:Bool}{ds:List (D×D)}
theorem zfX{k:Nat}(h:WAt S n ts gr r c b ds)(ht:ts.length<=100)(I:gr[k]?=some o)(ho:∀x,o=some x->0<=x/\x<ts.length):zaK [.ref n,.int k] S=.ok (.lst ((zmG ts o).map D.int)) S:=by
 have d:atI (gr.map oD) (k:Int)=some (oD o):=by rw[zcR,yaw,I];rfl
 have a:=zcT (ts:=ts.map zah) (o:=o) (S:=S) (fun x e=>by simpa using ho x e)
 cases o with
 |none=>
  have f:lrD (.int (ts.length:Int))=some (.lst (((List.range ts.length).map fun(i:Nat)=>(i:Int)).map D.int)):=by
   show(if decide (0<=(ts.length:Int)/\(ts.length:Int)<=1000)=true then _ else none)=_;rw[if_pos (yaB ⟨by omega,by omega⟩),yaO,ybh];rfl
  simp[zaK,zaj,zbg,h.ground,h.tiles,d,oD,f,zmG]
 |some x=>
  simp only[oD]at a;simp[zaK,zaj,zbg,h.ground,h.tiles,d,oD,a,zmG]
theorem zn1{k:Nat}{s:Z4}(h:WAt S n ts gr r c b ds)(I:1<=c)(hs:s.length=c+2):zdd [.ref n,.int k,zaR s,tl ts x] S=.ok (.bl (znF ts c b k s x)) S:=by
 have q:=zfo (k:=k) h I;have e:=zdB (k:=k) (s:=s) (x:=x) h I hs;have p:=h.meth "ends_row" (by decide +kernel);have m:=h.meth "colour_round" (by decide +kernel);have l:=h.meth "fits_round" (by decide +kernel);have a:tl ts x=.tup [.int (zdu ts x 0),.int (zdu ts x 1),.int (zdu ts x 2),.int (zdu ts x 3)]:=rfl
 have d:zaW [.ref n,.int k,zaR s,tl ts x] S=.ok (.bl (!b||!decide ((k+1) % c=0)||decide (some (zdu ts x 1)=crO ts c k s x))) S:=by
  have eq:∀o:Option Int,eqD (.int (zdu ts x 1)) (oD o)=some (.bl (decide (some (zdu ts x 1)=o))):=by
   intro o
   cases o with
   |none=>rfl|some y=>simp[oD]
  rw[a]at e ⊢;generalize zaR s=g at e ⊢;generalize crO ts c k s x=cr at e ⊢
  cases b with
  |false=>simp[zaW,zaj,zbp,h.round]|true=>by_cases z:(k+1) % c=0<;>simp[zaW,zaj,zbp,h.round,p,m,q,e,z,eq]
 have f:(s.map oD)[0]?=some (oD (s.getD 0 none)):=by
  rw[yaw,yaD,yad (by omega)];rfl
 have g1:(s.map oD)[1]?=some (oD (s.getD 1 none)):=by
  rw[yaw,yaD,yad (by omega)];rfl
 have s0:=zih (S:=S) (o:=s.getD 0 none) (y:=zdu ts x 3);have s1:=zih (S:=S) (o:=s.getD 1 none) (y:=zdu ts x 0);unfold znF;generalize (!b||!decide ((k+1) % c=0)||decide (some (zdu ts x 1)=crO ts c k s x))=t at d ⊢;unfold zaR at d ⊢;generalize s.map oD=g at d f g1 ⊢;generalize s.getD 0 none=j at f s0 ⊢;generalize s.getD 1 none=i at g1 s1 ⊢;rw[a]at d ⊢
 cases h0:okO j (zdu ts x 3)<;>cases h1:okO i (zdu ts x 0)<;>rw[h0]at s0<;>rw[h1]at s1 <;>
  simp[zdd,zaj,zez,f,g1,s0,s1,l,d]
def chD(p:Int×List (Option Int)):D:=.tup [.int p.1,zaR p.2]
def chs(ts:Z2)(gr:Z4)(c:Nat)(b:Bool)(k:Nat)(s:Z4):List (Int×List (Option Int)):=
 ((zmG ts (gr.getD k none)).filter (znF ts c b k s)).map fun x=>(x,znv ts gr.length c b k s x)
def chG(ts:Z2)(L c:Nat)(b:Bool)(k:Nat)(s:Z4):D->List D
 |.int x=>if znF ts c b k s x then[chD (x,znv ts L c b k s x)]else[]
 |_=>[]
theorem zhQ:∀l:List Int,(l.map D.int).flatMap (chG ts L c b k s)=((l.filter (znF ts c b k s)).map fun x=>(x,znv ts L c b k s x)).map chD
 |[]=>rfl|x::l=>by
  rw[yav,ybA,zhQ l,List.filter_cons];show(if znF ts c b k s x then[chD (x,znv ts L c b k s x)]else[])++_=_
  cases znF ts c b k s x<;>simp
theorem zf2(h:WAt S n ts gr r c b ds)(ht:TOk ts)(U:k<gr.length)(hg:∀o∈gr,∀x,o=some x->0<=x/\x<ts.length)(J:1<=c)(I:c<=100)(hs:s.length=c+2):
  zbw [.ref n,.int k,zaR s] S=.ok (.lst ((chs ts gr c b k s).map chD)) S:=by
 have a:gr[k]?=some (gr.getD k none):=by rw[yaD,yad U];rfl
 have m:=hg _ (ybm a);have p:=zfX h ht.le a m;have v:=h.meth "numbers_for" (by decide +kernel);have l:=h.meth "fits" (by decide +kernel);have u:=h.meth "seam_behind" (by decide +kernel);have f:=zmF m
 have hlen:(zmG ts (gr.getD k none)).length<=100:=by
  cases gr.getD k none with
  |none=>simp only[zmG,yaf,ybo];exact ht.le|some x=>simp[zmG]
 unfold chs;generalize zmG ts (gr.getD k none)=nums at p f hlen ⊢
 have E:((nums.map D.int).flatMap (chG ts gr.length c b k s)).length<=100:=by
  rw[zhQ,yaf,yaf];exact yak (ybi _ _) hlen
 obtain⟨B,e⟩:=zhI (tg:=.one 4) (body:=zbc) (S:=S) (fun L (x:Option (Bool×D)×Option (Bool×D))=>[~~~.ref n,~~~.int k,~~~zaR s,some (true,.lst L),x.1,x.2]) (chG ts gr.length c b k s) 50000 (ds:=nums.map D.int) (by
  intro d hd L x C;obtain⟨y,w,rfl⟩:=yat.mp hd;obtain⟨t,q⟩:=f y w;have z:=zh5 ht t q;have g:atI (ts.map zah) y=some (tl ts y):=z;have i:=zn1 (k:=k) (s:=s) (x:=y) h J hs;have A:=zfW (k:=k) (s:=s) (x:=y) h J I hs
  have j:L.length<=100000:=by omega
  refine⟨_,(~~~.int y,~~~tl ts y),rfl,?_⟩;show zbc [~~~.ref n,~~~.int k,~~~zaR s,some (true,.lst L),~~~.int y,x.2] S=.nx [~~~.ref n,~~~.int k,~~~zaR s,some (true,.lst (L++(if znF ts c b k s y then[chD (y,znv ts gr.length c b k s y)]else[]))),~~~.int y,~~~tl ts y] S
  cases hf:znF ts c b k s y with
  |true=>
   rw[hf]at i;simp[zbc,h.tiles,g,l,i,u,A,chD,j]
  |false=>
   rw[hf]at i
   simp[zbc,h.tiles,g,l,i]) [] (none,none) (by simp only[List.length_nil];omega)
 rw[zhQ]at e;simp only[ybQ]at e;generalize ((nums.filter (znF ts c b k s)).map fun x=>(x,znv ts gr.length c b k s x)).map chD=res at e ⊢;simp[zbw,zaj,zc1,v,p,e]
end
def zkf(c x:Str)(i:Nat)(ρ:Env)(r:D):Out D->Fo
 |.bad=>.bad|.exc c S2=>.ex c ρ S2|.ok d S2=>(match zlo ρ i,zhY c x d S2 with
   |some k,some (n,ob,ds)=>if(zbD k ds).isNone&&decide (ds.length<=1000000)&&zdQ ob then .nx ρ (S2.set n (ob.put x true (.dic (ds++[(nkD k,r)]))))else .bad
   |_,_=>.bad)
noncomputable def zrn(c x:Str)(f:Fe)(i:Nat)(ρ:Env):Out D->Fo
 |.bad=>.bad|.exc c S2=>.ex c ρ S2|.ok r S1=>zkf c x i ρ r (f ρ S1)
@[simp] def zve:zkN c x f i g ρ S=zrn c x f i ρ (g ρ S):=by
 unfold zkN zrn
 cases g ρ S with
 |ok r S1=>dsimp only;unfold zkf;cases f ρ S1<;>rfl|exc c S=>rfl|bad=>rfl
@[simp] def zxN:zrn c x f i ρ (.ok r S)=zkf c x i ρ r (f ρ S):=(rfl)
def zrl(I:zlo ρ i=some k)(hd:zhY c x d S=some (n,ob,ds))(h1:zbD k ds=none)(h2:ds.length<=1000000)(J:zdQ ob=true):zkf c x i ρ r (.ok d S)=.nx ρ (S.set n (ob.put x true (.dic (ds++[(nkD k,r)])))):=by
 show(match zlo ρ i,zhY c x d S with|some k,some (n,ob,ds)=>_|_,_=>_)=_;rw[I,hd];show(if _ then _ else _)=_;rw[if_pos];rw[h1,J,yaB h2];rfl
def zc4(ts:Z2)(gr:Z4)(c:Nat)(b:Bool):Nat->Nat->List (Option Int)->Nat
 |0,_,_=>1|m+1,k,s=>((chs ts gr c b k s).map fun p=>zc4 ts gr c b m (k+1) p.2).sum
noncomputable def zba(q:Nat):Nat->Nat
 |0=>0|m+1=>1+q*zba q m
theorem ze1:∀ds:List (D×D),zbD k (ds++[(q,d)])=(zbD k ds).or (if zkb q=some k then some d else none)
 |[]=>by show(if _ then _ else _)=_;simp[zbD]
 |(a,d')::ds=>by
  show(if zkb a=some k then some d' else zbD k (ds++[(q,d)]))=_;rw[ze1 ds];show _=(if zkb a=some k then some d' else zbD k ds).or _
  split<;>simp
noncomputable def zpe(ts:Z2)(gr:Z4)(c:Nat)(b:Bool)(ds:List (D×D)):Prop:=∀(k:Nat) s d,zbD ((k:Int),s) ds=some d->d=.int (zc4 ts gr c b (gr.length-k) k s)
def zfG{S:Sto}(h:S[n]?=some ob):S.set n ob=S:=by
 obtain⟨a,e⟩:=yal.mp h;apply yby;intro i
 by_cases z:n=i
 ·subst z;rw[yam a,h]
 ·rw[yax z]
def zjx(h1:1<=ts.length):(chs ts gr c b k s).length<=ts.length:=by
 unfold chs;rw[yaf];refine yak (ybi _ _) ?_
 cases gr.getD k none with
 |none=>simp[zmG]|some x=>simpa[zmG]using h1
theorem zrV(I:1<=c)(hs:s.length=c+2):(znv ts L c b k s x).length=c+2:=by
 unfold znv;rw[yar,yap,ycZ,ycn,hs];simp only[yar,List.length_nil];omega
def zhP(I:1<=c)(hs:s.length=c+2):∀p∈chs ts gr c b k s,p.2.length=c+2:=by
 intro p a;obtain⟨x,_,rfl⟩:=yat.mp a;exact zrV I hs
theorem zlr{α:Type}{f:α->Nat}:∀{l:List α},(∀x∈l,f x<=m)->(l.map f).sum<=l.length*m
 |[],_=>by simp
 |x::l,h=>by
  have h1:=h x yay;have h2:=zlr (l:=l) fun y a=>h y (yas _ a)
  rw[yav,yc2,yar,ydp];omega
theorem zls(h1:1<=ts.length):∀m k s,zc4 ts gr c b m k s<=ts.length ^ m
 |0,_,_=>by simp[zc4]
 |m+1,k,s=>by
  unfold zc4;refine yak (zlr fun p _=>zls h1 m (k+1) p.2) ?_;rw[Nat.pow_succ,Nat.mul_comm];exact Nat.mul_le_mul_left _ (zjx h1)
structure CfOk(n:Nat)(ts:Z2)(gr:Z4)(r c:Nat)(b:Bool)(m:Nat)(rc:List D->Sto->Out D):Prop where
 run:∀(S:Sto) (ds:List (D×D)) (k:Nat) (s:Z4),WAt S n ts gr r c b ds->zpe ts gr c b ds->k+m=gr.length->s.length=c+2->ds.length+zba ts.length m<=1000000 →
  ∃ds',rc [.ref n,.int k,zaR s] S=.ok (.int (zc4 ts gr c b m k s)) (S.set n (wOb (.tup (ts.map zah)) (.lst (gr.map oD)) (.tup [.int r,.int c]) b ds'))/\zpe ts gr c b ds'/\ds'.length<=ds.length+zba ts.length m/\∀k' s',k'<k->zbD (((k':Nat):Int),s') ds'=zbD (((k':Nat):Int),s') ds
section
variable{n:Nat}{ts:Z2}{gr:Z4}{r c:Nat}{b:Bool}
theorem zo2(C:CfOk n ts gr r c b m rc)(J:k+1+m=gr.length):∀(l:List (Int×List (Option Int))) (S:Sto) (ds:List (D×D)),(∀p∈l,p.2.length=c+2)->WAt S n ts gr r c b ds->zpe ts gr c b ds->ds.length+l.length*zba ts.length m<=1000000 →
  ∃I,zbE (.one 0) zeY (zaE "Ways" "count_from" rc (zaa 1) [(zaf zbG (zag 2) (zad (.int 1))),(zaf ixD (zag 0) (zad (.int 1)))]) [none,~~~.ref n,~~~.int k] (l.map chD) S
   = .ok (l.map fun p=>.int (zc4 ts gr c b m (k+1) p.2)) (S.set n (wOb (.tup (ts.map zah)) (.lst (gr.map oD)) (.tup [.int r,.int c]) b I))/\zpe ts gr c b I/\I.length<=ds.length+l.length*zba ts.length m/\∀k' s',k'<k+1->zbD (((k':Nat):Int),s') I=zbD (((k':Nat):Int),s') ds:=by
 intro l
 induction l with
 |nil=>intro S ds _ W M _;exact⟨ds,by rw[zfG W.at_];rfl,M,by simp,fun _ _ _=>rfl⟩
 |cons p l s=>
  intro S ds g W M t;rw[yar,ydp]at t;obtain⟨a,w,M1,y,j⟩:=C.run S ds (k+1) p.2 W M J (g p yay) (by omega);obtain⟨f,h,M2,x,i⟩:=s _ a (fun q u=>g q (yas _ u)) (W.put a) M1 (by omega);refine⟨f,?_,M2,by rw[yar,ydp];omega,fun k' s' d=>(i k' s' d).trans (j k' s' d)⟩;rw[ycv]at h;have mo:=W.meth "count_from" (by decide +kernel);have e:rc [.ref n,.int ((k:Int)+1),zaR p.2] S=_:=w;unfold zbE;rw[yav];dsimp only;generalize v:wOb (.tup (ts.map zah)) (.lst (gr.map oD)) (.tup [.int r,.int c]) b a=o at*;simp[chD,mo,e,h]
def zrR:CfOk n ts gr r c b 0 (zn6 4 false zak (f+1))where
 run:=fun S ds k s W M e hs d=>by
  refine⟨ds,?_,M,yb3 _ _,fun _ _ _=>rfl⟩;rw[zfG W.at_]
  have a:k=gr.length:=by omega
  subst a;show zaI 4 false (zak _) _ _=_;simp[zaj,zak,W.ground,zc4]
theorem zrS(C:CfOk n ts gr r c b m (zn6 4 false zak f))(ht:TOk ts)(h1:1<=ts.length)(hg:∀o∈gr,∀x,o=some x->0<=x/\x<ts.length)(hc:1<=c)(U:c<=100)(hp:ts.length ^ m<=1000000):CfOk n ts gr r c b (m+1) (zn6 4 false zak (f+1))where
 run:=fun S ds k s W M hk hs Z=>by
  have L:k<gr.length:=by omega
  have y:decide ((k:Int)=(gr.length:Int))=false:=yaH (by omega);have F:=znX (k:=(k:Int)) (s:=s);show ∃a5,zaI 4 false (zak _) _ _=_/\_;generalize zn6 4 false zak f=rc at C
  cases hd:zbD ((k:Int),s) ds with
  |some d=>
   have E:=M k s d hd;rw[show gr.length-k=m+1 by omega]at E;subst E;refine⟨ds,?_,M,yb3 _ _,fun _ _ _=>rfl⟩;rw[zfG W.at_];generalize zaR s=T at F;generalize zc4 ts gr c b (m+1) k s=cc at hd;simp[zaj,zak,W.ground,W.known,y,F,hd,zlo]
  |none=>
   have q:=zjx (gr:=gr) (c:=c) (b:=b) (k:=k) (s:=s) h1;have R:(chs ts gr c b k s).length*zba ts.length m<=ts.length*zba ts.length m:=ycj _ q;have Y:ds.length+(1+ts.length*zba ts.length m)<=1000000:=Z;have u:=zf2 (k:=k) (s:=s) W ht L hg hc U hs;obtain⟨a,H,M1,z1,Q⟩:=zo2 C (k:=k) (by omega) (chs ts gr c b k s) S ds (zhP hc hs) W M (by omega);have B:zbD ((k:Int),s) a=none:=(Q k s (yb2 k)).trans hd
   have g:zsx [.lst ((chs ts gr c b k s).map fun p=>D.int (zc4 ts gr c b m (k+1) p.2:Nat))]=some (.int (zc4 ts gr c b (m+1) k s:Nat)):=by
    have ei:∀l:List (Int×List (Option Int)),zeT (l.map fun p=>D.int (zc4 ts gr c b m (k+1) p.2:Nat))=some (l.map fun p=>((zc4 ts gr c b m (k+1) p.2:Nat):Int)):=by
     intro l
     induction l with
     |nil=>rfl|cons p l I=>rw[yav,yav];simp[zeT,I]
    have es:∀l:List (Int×List (Option Int)),(l.map fun p=>((zc4 ts gr c b m (k+1) p.2:Nat):Int)).sum=(((l.map fun p=>zc4 ts gr c b m (k+1) p.2).sum:Nat):Int):=by
     intro l
     induction l with
     |nil=>rfl|cons p l I=>rw[yav,yav,yc2,yc2,I,Int.natCast_add]
    show(zeT _).bind _=_;rw[ei];show(if _ then some (D.int _)else none)=_;rw[if_pos,es]
    ·rfl
    ·rw[yab];refine⟨yaB (by rw[yaf];exact yak q (yak ht.le (by decide))),?_⟩;rw[ybG];intro x hx;obtain⟨p,_,rfl⟩:=yat.mp hx;have:=zls (gr:=gr) (c:=c) (b:=b) h1 m (k+1) p.2;exact yaB (by omega)
   have W1:=W.put a;have mo:=W.meth "choices" (by decide +kernel);have hlen:(chs ts gr c b k s).length<=100000:=yak q (yak ht.le (by decide))
   have K:zdQ (wOb (.tup (ts.map zah)) (.lst (gr.map oD)) (.tup [.int r,.int c]) b a)=true:=by
    unfold zdQ;show decide ((["tiles","ground","size","is_round","known"]:List Str).Nodup)=true;decide +kernel
   have w:(wOb (.tup (ts.map zah)) (.lst (gr.map oD)) (.tup [.int r,.int c]) b a).put "known" true (.dic (a++[(nkD ((k:Int),s),.int (zc4 ts gr c b (m+1) k s:Nat))]))=wOb (.tup (ts.map zah)) (.lst (gr.map oD)) (.tup [.int r,.int c]) b (a++[(nkD ((k:Int),s),.int (zc4 ts gr c b (m+1) k s:Nat))]):=by rfl
   refine⟨a++[(nkD ((k:Int),s),.int (zc4 ts gr c b (m+1) k s:Nat))],?_,?_,?_,?_⟩
   ·have W2:=W.put (a++[(nkD ((k:Int),s),.int (zc4 ts gr c b (m+1) k s:Nat))])
    have i:zbD ((k:Int),s) (a++[(nkD ((k:Int),s),.int (zc4 ts gr c b (m+1) k s:Nat))])=some (.int (zc4 ts gr c b (m+1) k s:Nat)):=by
     rw[ze1,B,zeQ,if_pos rfl];rfl
    generalize v:(chs ts gr c b k s).map (fun p=>D.int (zc4 ts gr c b m (k+1) p.2:Nat))=res at H g
    have J:res.length<=100000:=by rw[<-v,yaf];exact hlen
    have h:zlo [~~~D.ref n,~~~.int k,~~~zaR s,~~~.tup [.int k,zaR s]] 3=some ((k:Int),s):=F;have e:=zrl (r:=.int (zc4 ts gr c b (m+1) k s:Nat)) h W1.known B (by omega) K;rw[w,ycv]at e;have j:=W2.known;have A:=W.known;have N:=W.ground;generalize wOb (.tup (ts.map zah)) (.lst (gr.map oD)) (.tup [.int r,.int c]) b (a++[(nkD ((k:Int),s),.int (zc4 ts gr c b (m+1) k s:Nat))])=V at e j ⊢;generalize wOb (.tup (ts.map zah)) (.lst (gr.map oD)) (.tup [.int r,.int c]) b a=X at e H;generalize a++[(nkD ((k:Int),s),D.int (zc4 ts gr c b (m+1) k s:Nat))]=a4 at j i;generalize zc4 ts gr c b (m+1) k s=vv at g e i ⊢;generalize zaR s=T at F u h e ⊢;generalize (chs ts gr c b k s).map chD=cs at u H;simp[zaj,zak,N,A,y,F,hd,mo,u,H,J,g,e,h,j,i]
   ·intro k' s' d h';rw[ze1]at h'
    cases h2:zbD ((k':Int),s') a with
    |some d'=>rw[h2]at h';cases h';exact M1 k' s' _ h2|none=>
     rw[h2,zeQ]at h';have t:(if some ((k:Int),s)=some ((k':Int),s')then some (D.int (zc4 ts gr c b (m+1) k s:Nat))else none)=some d:=h';split at t
     ·rename_i ee;cases t;have G:=Option.some.inj ee
      have P:k=k':=by have z:(k:Int)=(k':Int):=congrArg Prod.fst G;omega
      have O:s=s':=congrArg Prod.snd G;subst P;subst O;rw[show gr.length-k=m+1 by omega]
     ·cases t
   ·rw[yap,ybb];show _<=ds.length+(1+ts.length*zba ts.length m);omega
   ·intro k' s' a3;rw[ze1,Q k' s' (by omega),zeQ,if_neg]
    ·cases zbD ((k':Int),s') ds<;>rfl
    ·intro z;have:=congrArg Prod.fst (Option.some.inj z);simp at this;omega
end
def zg1(c x:Str)(ρ:Env)(r:D):Out D->Fo
 |.bad=>.bad|.exc c S2=>.ex c ρ S2|.ok (.ref n) S2=>(match S2[n]? with
   |some ob=>if decide (ob.cls=c)&&decide (ob.fs.length<1000)then .nx ρ (S2.set n (ob.put x false r))else .bad
   |none=>.bad)
 |.ok _ _=>.bad
noncomputable def zrp(c x:Str)(f:Fe)(ρ:Env):Out D->Fo
 |.bad=>.bad|.exc c S2=>.ex c ρ S2|.ok r S1=>zg1 c x ρ r (f ρ S1)
@[simp] def zvf:zfb c x f g ρ S=zrp c x f ρ (g ρ S):=by
 unfold zfb zrp
 cases g ρ S with
 |ok r S1=>
  dsimp only;unfold zg1
  cases f ρ S1 with
  |ok d S2=>cases d<;>rfl|exc c S=>rfl|bad=>rfl
 |exc c S=>rfl|bad=>rfl
@[simp] def zxV:zrp c x f ρ (.ok r S)=zg1 c x ρ r (f ρ S):=(rfl)
def zrm(h:fs.length<1000)(I:S.length=n):zg1 c x ρ r (.ok (.ref n) (S++[⟨c,fs⟩]))=.nx ρ (S++[⟨c,zaN x false r fs⟩]):=by
 subst I;show(match(S++[(⟨c,fs⟩:Ob)])[S.length]? with|some ob=>_|none=>_)=_;rw[yaG (yag _),ybw];show(if _ then Fo.nx ρ ((S++[(⟨c,fs⟩:Ob)]).set S.length _)else _)=_;rw[if_pos,ycW _ _ (yag _),ybw]
 ·rfl
 ·rw[yab];exact⟨yaB rfl,yaB h⟩
def zp8(hi:ρ[i]?=some (~~~.ref n))(h:fs.length<1000)(I:S.length=n):zkO c x i ρ (S++[⟨c,fs⟩])=.nx ρ (S++[⟨c,zaN x true (.dic []) fs⟩]):=by
 subst I;unfold zkO;rw[hi];show(match(S++[(⟨c,fs⟩:Ob)])[S.length]? with|some ob=>_|none=>_)=_;rw[yaG (yag _),ybw];show(if _ then Fo.nx ρ ((S++[(⟨c,fs⟩:Ob)]).set S.length _)else _)=_;rw[if_pos,ycW _ _ (yag _),ybw]
 ·rfl
 ·rw[yab];exact⟨yaB rfl,yaB h⟩
theorem zdM:∀{gs:List (Str×Bool×D)},(zaN x o d gs).length<=gs.length+1
 |[]=>by simp[zaN]
 |(y,z)::gs=>by
  unfold zaN;split
  ·simp
  ·have:=zdM (x:=x) (o:=o) (d:=d) (gs:=gs);simp only[yar];omega
noncomputable def zaH(r c:Nat)(g:Z1):List (Option Int):=(List.range r).flatMap fun i=>(List.range c).map fun j=>g i j
noncomputable def zzv(g:Z1):D->D|.tup [.int i,.int j]=>oD (g i.toNat j.toNat)|_=>.non
def zg3:(zcs r c).map (zzv g)=(zaH r c g).map oD:=by
 unfold zcs zaH;rw[List.map_flatMap,List.map_flatMap];congr 1;funext i;rw[ybh,ybh];rfl
def zcu:(zaH r c g).length=r*c:=by
 have:=congrArg List.length (zg3 (r:=r) (c:=c) (g:=g));rw[yaf,yaf,zdO]at this;exact this.symm
theorem zjT(h1:1<=r)(I:r<=100)(J:c<=100):
  zaZ [.ref S.length,T,flr r c g,.bl b] (S++[⟨"Ways",[]⟩])=.ok .non (S++[wOb T (.lst ((zaH r c g).map oD)) (.tup [.int r,.int c]) b []]):=by
 have z:∀S',zaG [flr r c g] S'=.ok (.lst (zcs r c)) S':=fun S'=>zcr h1 I J
 have y:∀S',zb9 [flr r c g] S'=.ok (.tup [.int r,.int c]) S':=fun S'=>zhn h1
 have f:∀S',zbE (.one 0) zeY (eFn zao [(zaa 1),(zaa 0)]) [none,~~~flr r c g] (zcs r c) S'=.ok ((zaH r c g).map oD) S':=fun S'=>by
  rw[<-zg3];refine ze3 fun d hd=>?_
  obtain⟨i,j,hi,w,rfl⟩:=zce hd;refine⟨_,rfl,?_⟩;have:=zbU (g:=g) (S:=S') hi w;simp[this];rfl
 have e:((zaH r c g).map oD).length<=100000:=by
  rw[yaf,zcu];exact yak (ybN I J) (by decide)
 generalize (zaH r c g).map oD=gl at f e;generalize flr r c g=a at*;have u:=zdM (x:="tiles") (o:=false) (d:=T) (gs:=[]);have t:=zdM (x:="ground") (o:=false) (d:=.lst gl) (gs:=zaN "tiles" false T []);have s:=zdM (x:="size") (o:=false) (d:=.tup [.int r,.int c]) (gs:=zaN "ground" false (.lst gl) (zaN "tiles" false T []));have q:=zdM (x:="is_round") (o:=false) (d:=.bl b) (gs:=zaN "size" false (.tup [.int r,.int c]) (zaN "ground" false (.lst gl) (zaN "tiles" false T [])));have p1:=fun(x:Str) (ρ:Env) (d:D) (fs:List (Str×Bool×D)) (h:fs.length<1000)=>zrm (c:="Ways") (x:=x) (ρ:=ρ) (S:=S) (r:=d) (fs:=fs) h rfl
 have v:([]:List (Str×Bool×D)).length=0:=rfl;have p2:=zp8 (c:="Ways") (x:="known") (i:=0) (ρ:=[~~~.ref S.length,~~~T,~~~a,~~~.bl b]) (S:=S) (n:=S.length) (fs:=zaN "is_round" false (.bl b) (zaN "size" false (.tup [.int r,.int c]) (zaN "ground" false (.lst gl) (zaN "tiles" false T [])))) rfl (by omega) rfl;have p:=p1 "tiles" [~~~.ref S.length,~~~T,~~~a,~~~.bl b] T [] (by omega);have m:=p1 "ground" [~~~.ref S.length,~~~T,~~~a,~~~.bl b] (.lst gl) (zaN "tiles" false T []) (by omega);have l:=p1 "size" [~~~.ref S.length,~~~T,~~~a,~~~.bl b] (.tup [.int r,.int c]) (zaN "ground" false (.lst gl) (zaN "tiles" false T [])) (by omega);have k:=p1 "is_round" [~~~.ref S.length,~~~T,~~~a,~~~.bl b] (.bl b) (zaN "size" false (.tup [.int r,.int c]) (zaN "ground" false (.lst gl) (zaN "tiles" false T []))) (by omega);clear u t s q v
 have fin:(⟨"Ways",zaN "known" true (.dic []) (zaN "is_round" false (.bl b) (zaN "size" false (.tup [.int r,.int c]) (zaN "ground" false (.lst gl) (zaN "tiles" false T []))))⟩:Ob)=wOb T (.lst gl) (.tup [.int r,.int c]) b []:=by rfl
 rw[fin]at p2;generalize zaN "is_round" false (.bl b) (zaN "size" false (.tup [.int r,.int c]) (zaN "ground" false (.lst gl) (zaN "tiles" false T [])))=f4,zaN "size" false (.tup [.int r,.int c]) (zaN "ground" false (.lst gl) (zaN "tiles" false T []))=A,zaN "ground" false (.lst gl) (zaN "tiles" false T [])=f2,zaN "tiles" false T []=f1,wOb T (.lst gl) (.tup [.int r,.int c]) b []=ob at*;simp[zaZ,zaj,zcD,z,y,f,e,p,m,l,k,p2]
theorem znr{n:Nat}{ts:Z2}{gr:Z4}{r c:Nat}{b:Bool}(ht:TOk ts)(h1:1<=ts.length)(J:∀o∈gr,∀x,o=some x->0<=x/\x<ts.length)(U:1<=c)(I:c<=100):∀m f,m+1<=f->ts.length ^ m<=1000000->CfOk n ts gr r c b m (zn6 4 false zak f)
 |0,f+1,_,_=>zrR|m+1,f+1,hf,d=>by
  have a:ts.length ^ m<=1000000:=yak (Nat.pow_le_pow_right h1 (ycp m)) d;exact zrS (znr ht h1 J U I m f (by omega) a) ht h1 J U I a
theorem zeE(W:WAt S n ts gr r c b [])(ht:TOk ts)(h1:1<=ts.length)(hg:∀o∈gr,∀x,o=some x->0<=x/\x<ts.length)(hc:1<=c)(J:c<=100)(hm:gr.length<=30)(hp:ts.length ^ gr.length<=1000000)(U:zba ts.length gr.length<=1000000):
  ∃I,za9 [.ref n] S=.ok (.int (zc4 ts gr c b gr.length 0 (List.replicate (c+2) none))) (S.set n (wOb (.tup (ts.map zah)) (.lst (gr.map oD)) (.tup [.int r,.int c]) b I))/\zpe ts gr c b I/\I.length<=zba ts.length gr.length:=by
 obtain⟨I,e,M,z,_⟩:=(znr (n:=n) (r:=r) (b:=b) ht h1 hg hc J gr.length 40 (by omega) hp).run S [] 0 (List.replicate (c+2) none) W (fun k s d h=>by cases h) (by omega) (yaL ..) (by simpa using U);refine⟨I,?_,M,by simpa using z⟩;have i:zaA [.ref n,.int 0,zaR (List.replicate (c+2) none)] S=_:=e;have g:=zeh W J;have f:=W.meth "count_from" (by decide +kernel);have a:=W.meth "first_seam" (by decide +kernel);generalize wOb (.tup (ts.map zah)) (.lst (gr.map oD)) (.tup [.int r,.int c]) b I=ob at*;simp[za9,zaj,zcf,f,a,g,i]
def zp6(ts:Z2)(r c:Nat)(g:Z1)(b:Bool):Nat:=zc4 ts (zaH r c g) c b (r*c) 0 (List.replicate (c+2) none)
noncomputable def Lg(S S':Sto):Prop:=∃X,S'=S++X
def Lg.refl:Lg S S:=⟨[],(ya3 S).symm⟩
def Lg.trans(h:Lg a b)(k:Lg b c):Lg a c:=by
 obtain⟨x,rfl⟩:=h;obtain⟨y,rfl⟩:=k;exact⟨x++y,ycf ..⟩
def Lg.one:Lg S ((S++[a]).set S.length b):=⟨[b],by rw[ycW _ _ (yag _),ybw];rfl⟩
theorem zfZ(ht:TOk ts)(h1:1<=ts.length)(hg:InT ts g)(J:1<=r)(U:r<=100)(hc:1<=c)(I:c<=100)(hm:r*c<=30)(hp:ts.length ^ (r*c)<=1000000)(hq:zba ts.length (r*c)<=1000000):
  ∃S',Lg S S'/\za2 [.tup (ts.map zah),flr r c g] S=.ok (.int (zp6 ts r c g false)) S':=by
 have l:=zjT (T:=.tup (ts.map zah)) (b:=false) (S:=S) (g:=g) (c:=c) J U I;have W:WAt (S++[wOb (.tup (ts.map zah)) (.lst ((zaH r c g).map oD)) (.tup [.int r,.int c]) false []]) S.length ts (zaH r c g) r c false []:=⟨by rw[yaG (yag _),ybw];rfl⟩
 have e:∀o∈zaH r c g,∀x,o=some x->0<=x/\x<ts.length:=by
  intro o d x a;obtain⟨i,_,d⟩:=yb5.mp d;obtain⟨j,_,rfl⟩:=yat.mp d;exact hg i j x a
 obtain⟨k,h,_⟩:=zeE W ht h1 e hc I (by rw[zcu];exact hm) (by rw[zcu];exact hp) (by rw[zcu];exact hq);rw[zcu]at h;have m:=W.meth "count_all" (by decide +kernel);obtain⟨S',f⟩:∃S',(S++[wOb (.tup (ts.map zah)) (.lst ((zaH r c g).map oD)) (.tup [.int r,.int c]) false []]).set S.length (wOb (.tup (ts.map zah)) (.lst ((zaH r c g).map oD)) (.tup [.int r,.int c]) false k)=S':=⟨_,rfl⟩;have a:=f ▸ Lg.one (S:=S);rw[f]at h;clear f;refine⟨S',a,?_⟩;unfold zp6;generalize wOb (.tup (ts.map zah)) (.lst ((zaH r c g).map oD)) (.tup [.int r,.int c]) false []=ob at*;simp[za2,zaj,zdr,l,m,h]
theorem ziH{α β:Type}{g:α->List β}:∀{l:List α},(∀x∈l,(g x).length<=m)->(l.flatMap g).length<=l.length*m
 |[],_=>by simp
 |x::l,h=>by
  have h1:=h x yay;have h2:=ziH (l:=l) fun y a=>h y (yas _ a)
  rw[ybA,yap,yar,ydp];omega
def zwL:(zc5 r c g).flatMap zy5=(zaH r c g).map oD:=by
 unfold zc5 zaH;rw[List.flatMap_map,List.map_flatMap];congr 1;funext i;show zeD c (g i)=_;rw[ybh];rfl
theorem zlq{α:Type}{f k:α->D}:∀{xs:List α},zfn (xs.map f) (xs.map k)=xs.map fun x=>.tup [f x,k x]
 |[]=>rfl|x::xs=>by simp[zfn,zlq (xs:=xs)]
def zgT(h1:1<=r)(I:r<=1000):zaS [flr r c g,flr r' c' h] S=if r'=r/\c'=c then .ok .non S else .exc "Unlike" S:=by
 by_cases e:r'=r/\c'=c
 ·simp[zaS,zaj,zbN,zjU h1 I,e]
 ·rw[if_neg e];simp[zaS,zaj,zbN,zjU h1 I,e]
def zfB(he:∀j,j<c->elt [~~~f j,~~~g j] S=.ok (h j) S):zbE (.tup [0,1]) zeY elt [none,none] (zfn ((List.range c).map f) ((List.range c).map g)) S=.ok ((List.range c).map h) S:=by
 rw[zlq]
 have:∀{xs:List Nat},(∀x∈xs,x<c)->zbE (.tup [0,1]) zeY elt [none,none] (xs.map fun x=>.tup [f x,g x]) S=.ok (xs.map h) S:=by
  intro xs
  induction xs with
  |nil=>intro _;rfl|cons x xs b=>
   intro a;have i:=he x (a x yay);have e:=b fun y d=>a y (yas _ d)
   rw[yav];unfold zbE;simp[i,e]
 exact this fun x a=>ybd.mp a
def zii(I:c<=1000):zc7 [zem c g,zem c h] S=.ok (zem c fun j=>(h j).or (g j)) S:=by
 have e:=zfB (c:=c) (f:=fun j=>oD (g j)) (g:=fun j=>oD (h j)) (h:=fun j=>oD ((h j).or (g j))) (elt:=eIf (zaf zki (zag 1) (zad .non)) (zaa 0) (zaa 1)) (S:=S) (by
  intro j a
  cases b:h j<;>simp[oD])
 simp[zc7,zaj,zfi,zem,zeD,e,show c<=100000 by omega]
def zho{c:Nat}{g h:Nat->Option Int}{S:Sto}(I:c<=1000):zcv [zem c g,zem c h] S=.ok (zem c fun j=>if(h j).isSome then none else g j) S:=by
 have e:=zfB (c:=c) (f:=fun j=>oD (g j)) (g:=fun j=>oD (h j)) (h:=fun j=>oD (if(h j).isSome then none else g j)) (elt:=eIf (zaf zki (zag 1) (zad .non)) (zaa 0) (zad .non)) (S:=S) (by
  intro j a
  cases b:h j<;>simp[oD])
 simp[zcv,zaj,zer,zem,zeD,e,show c<=100000 by omega]
def zn0(h1:1<=r)(I:r<=1000)(J:c<=1000):zjX [flr r c g,flr r c h] S=.ok (flr r c (ov g h)) S:=by
 have e:=zfB (c:=r) (f:=fun i=>zem c (g i)) (g:=fun i=>zem c (h i)) (h:=fun i=>zem c (ov g h i)) (elt:=eFn zc7 [(zaa 0),(zaa 1)]) (S:=S) (by
  intro i hi
  simp[zii J];rfl)
 have u:=zgT (c:=c) (c':=c) (r':=r) (g:=g) (h:=h) (S:=S) h1 I;simp[flr,zc5]at u;simp[zjX,zaj,zne,flr,zc5,u,e,show r<=100000 by omega]
def zlW{r c:Nat}{g h:Gf}{S:Sto}(h1:1<=r)(I:r<=1000)(J:c<=1000):zht [flr r c g,flr r c h] S=.ok (flr r c (un g h)) S:=by
 have e:=zfB (c:=r) (f:=fun i=>zem c (g i)) (g:=fun i=>zem c (h i)) (h:=fun i=>zem c (un g h i)) (elt:=eFn zcv [(zaa 0),(zaa 1)]) (S:=S) (by
  intro i hi
  simp[zho J];rfl)
 have u:=zgT (c:=c) (c':=c) (r':=r) (g:=g) (h:=h) (S:=S) h1 I;simp[flr,zc5]at u;simp[zht,zaj,zjo,flr,zc5,u,e,show r<=100000 by omega]
def zyt{α:Type}{x:α}{l:List α}:zej (x::l) (some 1) none=l:=by
 have:HT.sIx (x::l).length 0 (some 1)=1:=by
  have:=HT.zfT (x::l).length 0 1;rw[show((1:Nat):Int)=1 from rfl]at this;rw[this];simp
 unfold zej;rw[this];simp[HT.sIx]
theorem znl{α:Type}{l:List α}{n:Nat}:zej l (some (n:Int)) none=l.drop n:=by
 unfold zej;rw[HT.zfT];simp[HT.sIx]
 by_cases h:n<=l.length
 ·rw[ydb h];exact yb7 (by simp)
 ·rw[List.drop_eq_nil_of_le (show l.length<=n by omega),List.drop_eq_nil_of_le (by omega)];simp
def zuA{α:Type}{l:List α}(h:n<=l.length):zej l none (some (n:Int))=l.take n:=by
 unfold zej;rw[HT.zfT];simp[HT.sIx,ydb h]
noncomputable def zgJ(g:Z1)(i j:Nat)(o:Option Int):Nat->Nat->Option Int:=fun a b=>if a=i/\b=j then o else g a b
def zqG:(zeD c g).set j (oD o)=zeD c fun b=>if b=j then o else g b:=by
 apply yby;intro k
 by_cases a:k<c
 ·rw[zfI a]
  by_cases e:j=k
  ·subst e;rw[yam (by rw[zd3];exact a),if_pos rfl]
  ·rw[yax e,zfI a,if_neg (fun z=>e z.symm)]
 ·rw[ybc (by rw[yau,zd3];omega),ybc (by rw[zd3];omega)]
def zrE:(zc5 r c g).set i (zem c fun b=>if b=j then o else g i b)=zc5 r c (zgJ g i j o):=by
 apply yby;intro k
 by_cases a:k<r
 ·rw[zec a]
  by_cases e:i=k
  ·subst e;rw[yam (by rw[zdl];exact a)];congr 3;funext b;unfold zgJ
   by_cases z:b=j<;>simp[z]
  ·rw[yax e,zec a];congr 3;funext b;unfold zgJ;rw[if_neg (fun z=>e z.1.symm)]
 ·rw[ybc (by rw[yau,zdl];omega),ybc (by rw[zdl];omega)]
theorem znk{α:Type}{l:List α}{x:α}(h:j<l.length):zej l none (some (j:Int))++x::zej l (some ((j:Int)+1)) none=l.set j x:=by
 rw[zuA (by omega),show((j:Int)+1)=((j+1:Nat):Int)by omega,znl,List.set_eq_take_append_cons_drop,if_pos h]
theorem zfU(hi:i<r)(I:j<c)(J:r<=100)(U:c<=100):zcl [flr r c g,plD i j,oD o] S=.ok (flr r c (zgJ g i j o)) S:=by
 have e:atI (zc5 r c g) (i:Int)=some (zem c (g i)):=by rw[zcR,zec hi]
 have d:zej (zeD c (g i)) none (some (j:Int))++oD o::zej (zeD c (g i)) (some ((j:Int)+1)) none=zeD c fun b=>if b=j then o else g i b:=by rw[znk (by rw[zd3];exact I),zqG]
 have a:zej (zc5 r c g) none (some (i:Int))++(zem c fun b=>if b=j then o else g i b)::zej (zc5 r c g) (some ((i:Int)+1)) none=zc5 r c (zgJ g i j o):=by rw[znk (by rw[zdl];exact hi),zrE]
 have p:=congrArg List.length d;have n:=congrArg List.length a;rw[yap,yar,zd3]at p;rw[yap,yar,zdl]at n;unfold flr;rw[<-a];unfold zem at e ⊢;rw[<-d];generalize m:zej (zeD c (g i)) none (some (j:Int))=a1 at*;generalize l:zej (zeD c (g i)) (some ((j:Int)+1)) none=a2 at*;generalize k:zej (zc5 r c g) none (some (i:Int))=f at*;generalize h:zej (zc5 r c g) (some ((i:Int)+1)) none=q at*
 have p1:a1.length+1<=100000:=by omega
 have p2:a1.length+1+a2.length<=100000:=by omega
 have p3:f.length+1<=100000:=by omega
 have p4:f.length+1+q.length<=100000:=by omega
 simp[zcl,zaj,zdn,plD,e,m,l,k,h,p1,p2,p3,p4]
def zgp(Iv:Nat->Env->Sto->Prop)(step:∀k d ρ S,ds[k]?=some d->Iv k ρ S->∃U J S2,tg.put ρ d=some U/\body U S=.nx J S2/\Iv (k+1) J S2)(h0:Iv 0 ρ S):∃I S',zeq tg body ds ρ S=.nx I S'/\Iv ds.length I S':=by
 have go:∀(n:Nat) (es:List D) (k:Nat) (ρ:Env) (S:Sto),es.length=n->ds.drop k=es->k+n=ds.length->Iv k ρ S->∃I S',zeq tg body es ρ S=.nx I S'/\Iv ds.length I S':=by
  intro n
  induction n with
  |zero=>
   intro es k ρ S a he e hi;obtain rfl:es=[]:=ya4 a;exact⟨ρ,S,rfl,by rw[show ds.length=k by omega];exact hi⟩
  |succ n c=>
   intro es k ρ S a he e hi
   cases es with
   |nil=>cases a|cons d es=>
    have hd:ds[k]?=some d:=by
     have:=congrArg (fun l=>l[0]?) he;rw[ybK]at this;simpa using this
    obtain⟨U,J,S2,i,h,b⟩:=step k d ρ S hd hi;obtain⟨I,S',g,f⟩:=c es (k+1) J S2 (by simpa using a) (by rw[<-List.drop_drop,he];rfl) (by omega) b;refine⟨I,S',?_,f⟩;unfold zeq;rw[i];dsimp only;rw[h];exact g
 exact go ds.length ds 0 ρ S rfl (by simp) (by omega) h0
theorem zel(h1:1<=r)(hi:i<r)(I:j<c):zaq [flr r c g,plD i j] S=.ok .non S:=by
 have a:zay [flr r c g,plD i j] S=.ok (.bl true) S:=by rw[zck h1];congr 3;simp;omega
 simp[zaq,zaj,zbB,a]
def zi9(h:∀x,o=some x->0<=x/\x<ts.length):zdI [.tup ts,oD o] S=.ok (.bl true) S:=by
 have e:=zcT (ts:=ts) (o:=o) (S:=S) h
 cases o with
 |none=>simp[zdI,zaj,zeV,oD]|some x=>
  simp only[oD]at e;simp[zdI,zaj,zeV,oD,e]
def zdc{ts:Z2}{r c i j:Nat}{g:Z1}{o:Option Int}{S:Sto}(h:∀x,o=some x->0<=x/\x<ts.length)(h1:1<=r)(hi:i<r)(I:j<c)(J:r<=100)(U:c<=100):zaF [.tup (ts.map zah),flr r c g,plD i j,oD o] S=.ok (flr r c (zgJ g i j o)) S:=by
 have f:=zel (g:=g) (S:=S) h1 hi I;have e:=zi9 (ts:=ts.map zah) (o:=o) (S:=S) (fun x a=>by simpa using h x a);have d:=zfU (g:=g) (o:=o) (S:=S) hi I J U;generalize flr r c g=l,flr r c (zgJ g i j o)=b,plD i j=pp,oD o=k at*;simp[zaF,zaj,zdm,f,e,d]
noncomputable def zgz(q m:Nat):Prop:=zba q m+m*(zba q m+q*zba q m)<=1000000/\q ^ m<=80000
noncomputable instance{q m:Nat}:Decidable (zgz q m):=by unfold zgz;exact inferInstance
theorem zvL:∀{q:Nat},q<=5->∀{m:Nat},m<=6->zgz q m:=by
 have h:∀q,q<6->∀m,m<7->zgz q m:=by decide
 intro q a m hm;exact h q (by omega) m (by omega)
structure FP(ts:Z2)(r c:Nat):Prop where
 ht:TOk ts
 h1:1<=ts.length
 h4:zgz ts.length (r*c)
 r1:1<=r
 c1:1<=c
 rc:r*c<=6
def FP.r6(h:FP ts r c):r<=6:=by
 have:=h.rc;have:=h.c1;exact yak (Nat.le_mul_of_pos_right r h.c1) h.rc
def FP.c6(h:FP ts r c):c<=6:=yak (Nat.le_mul_of_pos_left c h.r1) h.rc
theorem zmd(q:Nat)(m:Nat)(h:zgz q m):zba q m<=1000000/\q ^ m<=80000:=⟨by have:=h.1;omega,h.2⟩
def nW(ts:Z2)(r c:Nat)(g:Z1):Nat:=zp6 ts r c g false
section
variable{ts:Z2}{r c:Nat}{g:Z1}
def zf0(P:FP ts r c)(I:InT ts g)(S:Sto):∃S',Lg S S'/\za2 [.tup (ts.map zah),flr r c g] S=.ok (.int (nW ts r c g)) S':=by
 obtain⟨b,d⟩:=zmd ts.length (r*c) P.h4;obtain⟨S',a,e⟩:=zfZ (S:=S) P.ht P.h1 I P.r1 (by have:=P.r6;omega) P.c1 (by have:=P.c6;omega) (by have:=P.rc;omega) (by omega) b;exact⟨S',a,e⟩
end
def zme{ts:Z2}{g:Z1}{i j:Nat}{o:Option Int}(I:InT ts g)(ho:∀x,o=some x->0<=x/\x<ts.length):InT ts (zgJ g i j o):=by
 intro a b x c;unfold zgJ at c;split at c
 ·exact ho x c
 ·exact I a b x c
def zgK(ts:Z2)(gr:Z4)(c:Nat)(b:Bool):Nat->Nat->List (Option Int)->List Int
 |0,_,_=>[]|m+1,k,s=>((chs ts gr c b k s).find? fun p=>decide (0<zc4 ts gr c b m (k+1) p.2)).elim [] fun p=>p.1::zgK ts gr c b m (k+1) p.2
def zm7{w:Int×List (Option Int)->Nat}{l:List (Int×List (Option Int))}(h:0<(l.map w).sum):∃p,l.find? (fun p=>decide (0<w p))=some p:=by
 induction l with
 |nil=>simp at h|cons x l b=>
  rw[List.find?_cons]
  by_cases a:0<w x
  ·exact⟨x,by rw[yaB a]⟩
  ·rw[yaH a];rw[yav,yc2]at h;exact b (by omega)
section
variable{n:Nat}{ts:Z2}{gr:Z4}{r c:Nat}{b:Bool}
theorem zwz(C:CfOk n ts gr r c b m zaA)(hk:k+1+m=gr.length)(hN:N.length<=1000):∀(cs:List (Int×List (Option Int))) (S:Sto) (ds:List (D×D)) (J s6 U:Option (Bool×D)),(∀p∈cs,p.2.length=c+2)->cs.find? (fun p=>decide (0<zc4 ts gr c b m (k+1) p.2))=some p->WAt S n ts gr r c b ds->zpe ts gr c b ds->ds.length+cs.length*zba ts.length m<=1000000 →
  ∃I x6 x7,zeq (.one 6) za8 (cs.map chD) [~~~.ref n,s1,some (true,.lst N),~~~.int 0,J,~~~.int k,s6,U] S
   = .nx [~~~.ref n,s1,some (true,.lst (N++[.int p.1])),~~~.int 0,~~~zaR p.2,~~~.int k,x6,x7] (S.set n (wOb (.tup (ts.map zah)) (.lst (gr.map oD)) (.tup [.int r,.int c]) b I))/\zpe ts gr c b I/\I.length<=ds.length+cs.length*zba ts.length m:=by
 intro cs
 induction cs with
 |nil=>intro S ds J s6 U _ e;cases e|cons a cs q=>
  intro S ds J s6 U j e W M t;rw[yar,ydp]at t ⊢;obtain⟨d,f,M1,w,_⟩:=C.run S ds (k+1) a.2 W M hk (j a yay) (by omega);have f:zaA [.ref n,.int ((k:Int)+1),zaR a.2] S=_:=f;have mo:=W.meth "count_from" (by decide +kernel);have s:ixD (chD a) (.int 0)=some (.int a.1):=rfl;have i1:ixD (chD a) (.int 1)=some (zaR a.2):=rfl;rw[List.find?_cons]at e
  by_cases h:0<zc4 ts gr c b m (k+1) a.2
  ·rw[yaB h]at e;cases e
   have g:N.length<=100000:=by omega
   refine⟨d,~~~chD p,~~~(.int (zc4 ts gr c b m (k+1) p.2:Nat)),?_,M1,by omega⟩;rw[yav];unfold zeq;generalize wOb (.tup (ts.map zah)) (.lst (gr.map oD)) (.tup [.int r,.int c]) b d=ob,zc4 ts gr c b m (k+1) p.2=ww,chD p=cp,zaR p.2=o at*;simp[za8,mo,s,i1,f,h,g]
  ·rw[yaH h]at e;rw[Nat.eq_zero_of_not_pos h]at f;obtain⟨i,x6,x7,l,M2,v⟩:=q _ d J (~~~chD a) (~~~.int 0) (fun p u=>j p (yas _ u)) e (W.put d) M1 (by omega);refine⟨i,x6,x7,?_,M2,by omega⟩;rw[ycv]at l;rw[yav];unfold zeq;generalize wOb (.tup (ts.map zah)) (.lst (gr.map oD)) (.tup [.int r,.int c]) b d=ob,chD a=cp,zaR a.2=o at*;simp[za8,mo,i1,f,zr3];exact l
end
theorem zmc(h:1<=q):∀{m L:Nat},m<=L->zba q m<=zba q L:=by
 intro m L b
 have step:∀n,zba q n<=zba q (n+1):=by
  intro n;show _<=1+q*zba q n;have:1*zba q n<=q*zba q n:=ycj _ h;omega
 induction L with
 |zero=>rw[show m=0 by omega];exact yag _
 |succ L a=>
  by_cases e:m=L+1
  ·rw[e];exact yag _
  ·exact yak (a (by omega)) (step L)
def zhr{L k:Nat}{d:D}(h:(zaw 0 (L:Int))[k]?=some d):k<L/\d=.int (k:Int):=by
 unfold zaw at h;simp only[Int.sub_zero,yaO]at h;rw[yaw]at h
 by_cases a:k<L
 ·rw[List.getElem?_range a]at h;refine⟨a,?_⟩;have:=(Option.some.inj h).symm;simpa using this
 ·rw[ybc (by simp;omega)]at h;cases h
section
variable{n:Nat}{ts:Z2}{gr:Z4}{r c:Nat}{b:Bool}
theorem zgG(W:WAt S n ts gr r c b ds)(M:zpe ts gr c b ds)(ht:TOk ts)(h1:1<=ts.length)(hg:∀o∈gr,∀x,o=some x->0<=x/\x<ts.length)(U:1<=c)(J:c<=100)(hm:gr.length<=30)(hp:ts.length ^ gr.length<=1000000)(hz:ds.length+gr.length*(ts.length*zba ts.length gr.length)<=1000000)(hq:0<zc4 ts gr c b gr.length 0 (List.replicate (c+2) none)):
  ∃I t,zgK ts gr c b gr.length 0 (List.replicate (c+2) none)=t/\t.length=gr.length/\zbo [.ref n,.int 0] S=.ok (.lst (t.map D.int)) (S.set n (wOb (.tup (ts.map zah)) (.lst (gr.map oD)) (.tup [.int r,.int c]) b I)):=by
 have Z:=zeh W J;have T:=W.meth "first_seam" (by decide +kernel)
 have F:(zaw 0 (gr.length:Int)).length=gr.length:=by unfold zaw;simp
 obtain⟨K,S',Y,t,s,I,x5,x6,x7,rfl,rfl,H,L,hs,f,g,a⟩:=zgp (tg:=.one 5) (body:=zbF) (ds:=zaw 0 (gr.length:Int)) (fun k ρ S'=>∃(t:List Int) (s:Z4) (I:List (D×D)) (x5 x6 x7:Option (Bool×D)),ρ=[~~~.ref n,~~~.int 0,some (true,.lst (t.map D.int)),~~~.int 0,~~~zaR s,x5,x6,x7]/\S'=S.set n (wOb (.tup (ts.map zah)) (.lst (gr.map oD)) (.tup [.int r,.int c]) b I)/\zpe ts gr c b I/\I.length<=ds.length+k*(ts.length*zba ts.length gr.length)/\s.length=c+2/\t.length=k/\0<zc4 ts gr c b (gr.length-k) k s/\t++zgK ts gr c b (gr.length-k) k s=zgK ts gr c b gr.length 0 (List.replicate (c+2) none)) (by
  rintro k d ρ S' hd ⟨t,s,I,x5,x6,x7,rfl,rfl,H,L,hs,f,g,a⟩;obtain⟨E,rfl⟩:=zhr hd;obtain⟨m,u⟩:∃m,gr.length-k=m+1:=⟨gr.length-k-1,by omega⟩;rw[u]at g a
  have h:gr.length-(k+1)=m:=by omega
  have A:=W.put I;have C:CfOk n ts gr r c b m zaA:=znr ht h1 hg U J m 40 (by omega) (yak (Nat.pow_le_pow_right h1 (by omega)) hp);have z:=zf2 (k:=k) (s:=s) A ht E hg U J hs;obtain⟨p,e⟩:=zm7 (w:=fun p=>zc4 ts gr c b m (k+1) p.2) (l:=chs ts gr c b k s) g;have q:=List.mem_of_find?_eq_some e
  have j:0<zc4 ts gr c b m (k+1) p.2:=by simpa using List.find?_some e
  have B:(chs ts gr c b k s).length*zba ts.length m<=ts.length*zba ts.length gr.length:=ybN (zjx h1) (zmc h1 (by omega));have v:(k+1)*(ts.length*zba ts.length gr.length)<=gr.length*(ts.length*zba ts.length gr.length):=ycj _ E;rw[yct]at v;obtain⟨i,P,O,G,M2,z2⟩:=zwz (s1:= ~~~.int 0) (N:=t.map D.int) C (by omega) (by rw[yaf];omega) (chs ts gr c b k s) _ I (~~~zaR s) x6 x7 (zhP U hs) e A H (by omega);rw[ycv]at G;have mo:=A.meth "choices" (by decide +kernel);refine⟨_,_,_,rfl,?_,t++[p.1],p.2,i,~~~.int k,P,O,rfl,rfl,M2,by rw[yct];omega,zhP U hs p q,by rw[yap,f];rfl,by rw[h];exact j,?_⟩
  ·have V:(t++[p.1]).map D.int=t.map D.int++[D.int p.1]:=by rw[ybC];rfl
   rw[V];generalize wOb (.tup (ts.map zah)) (.lst (gr.map oD)) (.tup [.int r,.int c]) b I=ob,wOb (.tup (ts.map zah)) (.lst (gr.map oD)) (.tup [.int r,.int c]) b i=R,(chs ts gr c b k s).map chD=cs,zaR s=Q,zaR p.2=sp at*;simp[zbF,mo,z,G]
  ·rw[<-a,h,zgK,e,ycf];rfl)
  (ρ:=[~~~.ref n,~~~.int 0,some (true,.lst []),~~~.int 0,~~~(zaR (List.replicate (c+2) none)),none,none,none]) (S:=S) ⟨[],List.replicate (c+2) none,ds,none,none,none,rfl,(zfG W.at_).symm,M,by omega,yaL ..,rfl,hq,rfl⟩
 rw[F,ybw,zgK,ya3]at a;refine⟨I,t,a.symm,f.trans F,?_⟩
 have y:-1000000<=(gr.length:Int)/\(gr.length:Int)<=1000000:=by omega
 have X:=W.ground;generalize wOb (.tup (ts.map zah)) (.lst (gr.map oD)) (.tup [.int r,.int c]) b I=ob,zaR (List.replicate (c+2) none)=Q,t.map D.int=td at*;simp[zbo,zaj,zbZ,T,Z,X,y,Y]
end
noncomputable def zbr(c:Nat)(t:List Int):Nat->Nat->Option Int:=fun i j=>some (t.getD (i*c+j) 0)
theorem zrK{t:List Int}{r c i:Nat}(I:t.length=r*c)(hi:i<r):zej (t.map D.int) (some ((i:Int)*(c:Int))) (some (((i:Int)+1)*(c:Int)))=zeD c (zbr c t i):=by
 have h1:i*c+c<=r*c:=by
  have:=ycj c (show i+1<=r by omega);rwa[yct]at this
 unfold zej;rw[show(i:Int)*(c:Int)=((i*c:Nat):Int)by rw[Int.natCast_mul],show((i:Int)+1)*(c:Int)=((i*c+c:Nat):Int)by rw[Int.add_mul,Int.one_mul,Int.natCast_add,Int.natCast_mul],HT.zfT,HT.zfT,yaf,I];rw[ydb h1,ydb (show i*c<=r*c by omega),show i*c+c-i*c=c by omega];apply yby;intro j;rw[ycH]
 by_cases a:j<c
 ·rw[if_pos a,ybK,zfI a,yaw,yad (by omega)];simp[oD,zbr,yaD,yad (show i*c+j<t.length by omega)]
 ·rw[if_neg a,ybc (by simp[zeD];omega)]
theorem zja{t:List Int}{r c:Nat}{S:Sto}(I:t.length=r*c)(U:c<=100)(J:r<=100):zeH [.lst (t.map D.int),.tup [.int r,.int c]] S=.ok (flr r c (zbr c t)) S:=by
 have fc:zci (c:Int)=true:=zpQ (by omega) (by omega)
 have f:=ze3 (tg:=.one 0) (elt:=zax zbH [(eSl (zag 1) (some (zaf zff (zag 0) (zaf ixD (zag 2) (zad (.int 1))))) (some (zaf zff (zaf zbG (zag 0) (zad (.int 1))) (zaf ixD (zag 2) (zad (.int 1))))))]) (ag:=[none,~~~.lst (t.map D.int),~~~.tup [.int r,.int c]]) (S:=S) (g:=fun d=>match d with|.int i=>zem c (zbr c t i.toNat)|_=>.non) (ds:=zaw 0 (r:Int)) (by
  intro d hd;obtain⟨k,j⟩:=List.getElem?_of_mem hd;obtain⟨hi,rfl⟩:=zhr j;refine⟨_,rfl,?_⟩;have e:=zrK I hi;show _=Out.ok (D.tup (zeD c (zbr c t ((k:Int).toNat)))) S;rw[yaO];generalize zeD c (zbr c t k)=res,t.map D.int=h at*
  simp[fc,e])
 have l:(zaw 0 (r:Int)).map (fun d=>match d with|.int i=>zem c (zbr c t i.toNat)|_=>.non)=zc5 r c (zbr c t):=by
  unfold zaw zc5;simp only[Int.sub_zero,yaO,ybh];apply List.map_congr_left;intro i _;simp
 rw[l]at f
 have b:(zc5 r c (zbr c t)).length<=100000:=by rw[zdl];omega
 have a:-1000000<=(r:Int)/\(r:Int)<=1000000:=by omega
 unfold flr;generalize zc5 r c (zbr c t)=res,t.map D.int=h at*;simp[zeH,zaj,zgt,a,f,b]
section
variable{n:Nat}{ts:Z2}{gr:Z4}{r c:Nat}{b:Bool}{S:Sto}
theorem zig(W:WAt S n ts gr r c b [])(ht:TOk ts)(h1:1<=ts.length)(hg:∀o∈gr,∀x,o=some x->0<=x/\x<ts.length)(hc:1<=c)(I:c<=100)(hr:r<=100)(a3:gr.length=r*c)(hm:gr.length<=30)(U:ts.length ^ gr.length<=1000000)(hz:zba ts.length gr.length+gr.length*(ts.length*zba ts.length gr.length)<=1000000)(J:0<zc4 ts gr c b gr.length 0 (List.replicate (c+2) none)):
  ∃ob,zbk [.ref n,.int 0] S=.ok (flr r c (zbr c (zgK ts gr c b gr.length 0 (List.replicate (c+2) none)))) (S.set n ob):=by
 obtain⟨d,p,M,z⟩:=zeE W ht h1 hg hc I hm U (by omega);have j:=W.meth "count_all" (by decide +kernel);have g:=W.put d;obtain⟨a,t,l,k,f⟩:=zgG g M ht h1 hg hc I hm U (by omega) J;rw[ycv]at f;have es:=(W.put a).size;have i:=g.meth "numbers_by" (by decide +kernel);have m:=zja (t:=t) (r:=r) (c:=c) (S:=S.set n (wOb (.tup (ts.map zah)) (.lst (gr.map oD)) (.tup [.int r,.int c]) b a)) (by omega) I hr;rw[l];generalize zc4 ts gr c b gr.length 0 (List.replicate (c+2) none)=ww,wOb (.tup (ts.map zah)) (.lst (gr.map oD)) (.tup [.int r,.int c]) b d=h,wOb (.tup (ts.map zah)) (.lst (gr.map oD)) (.tup [.int r,.int c]) b a=e,flr r c (zbr c t)=s,t.map D.int=q at*;exact⟨e,by simp[zbk,zaj,zcB,j,p,J,i,f,es,m]⟩
end
theorem zob(q m:Nat)(h:zgz q m):zba q m+m*(q*zba q m)<=1000000:=by
 have h1:=h.1;have:m*(q*zba q m)<=m*(zba q m+q*zba q m):=Nat.mul_le_mul_left _ (Nat.le_add_left _ _);omega
def fw(ts:Z2)(r c:Nat)(g:Z1):List Int:=zgK ts (zaH r c g) c false (r*c) 0 (List.replicate (c+2) none)
def zg4{ts:Z2}{r c:Nat}{g:Z1}(I:InT ts g):∀o∈zaH r c g,∀x,o=some x->0<=x/\x<ts.length:=by
 intro o a x b;obtain⟨i,_,a⟩:=yb5.mp a;obtain⟨j,_,rfl⟩:=yat.mp a;exact I i j x b
theorem zn2(P:FP ts r c)(J:InT ts g)(I:nW ts r c g≠0)(S:Sto):∃S',Lg S S'/\zjY [.tup (ts.map zah),flr r c g,.int 0] S=.ok (flr r c (zbr c (fw ts r c g))) S':=by
 obtain⟨n,l⟩:=zmd ts.length (r*c) P.h4;have j:=zob ts.length (r*c) P.h4;have r6:=P.r6;have c6:=P.c6;have h:=zjT (T:=.tup (ts.map zah)) (b:=false) (S:=S) (g:=g) (c:=c) P.r1 (show r<=100 by omega) (show c<=100 by omega);have W:WAt (S++[wOb (.tup (ts.map zah)) (.lst ((zaH r c g).map oD)) (.tup [.int r,.int c]) false []]) S.length ts (zaH r c g) r c false []:=⟨by rw[yaG (yag _),ybw];rfl⟩;have gl:=zcu (r:=r) (c:=c) (g:=g);have rc:=P.rc
 have e:0<zc4 ts (zaH r c g) c false (zaH r c g).length 0 (List.replicate (c+2) none):=by rw[gl];exact Nat.pos_of_ne_zero I
 obtain⟨d,a⟩:=zig W P.ht P.h1 (zg4 J) P.c1 (by omega) (by omega) gl (by omega) (by rw[gl];omega) (by rw[gl];exact j) e;rw[gl]at a;have m:=W.meth "whole_by" (by decide +kernel);have f:=zek (i:=0) (S:=S);have a:zbk [.ref S.length,.int 0] _=.ok (flr r c (zbr c (fw ts r c g))) _:=a;generalize flr r c (zbr c (fw ts r c g))=res,wOb (.tup (ts.map zah)) (.lst ((zaH r c g).map oD)) (.tup [.int r,.int c]) false []=ob,flr r c g=k at*;refine⟨(S++[ob]).set S.length d,.one,?_⟩;simp[zjY,zaj,znf,f,h,m,a]
section
variable{ts:Z2}{r c:Nat}{g h:Z1}
def zq0{gr:Z4}{b:Bool}(I:∀o∈gr,∀x,o=some x->0<=x/\x<ts.length):∀m k s,∀x∈zgK ts gr c b m k s,0<=x/\x<ts.length:=by
 intro m
 induction m with
 |zero=>intro _ _ x a;cases a|succ m g=>
  intro k s x a;rw[zgK]at a
  cases hs:(chs ts gr c b k s).find? fun p=>decide (0<zc4 ts gr c b m (k+1) p.2)with
  |none=>rw[hs]at a;cases a|some p=>
   rw[hs]at a
   rcases yan.mp a with rfl|z
   ·obtain⟨y,h,e⟩:=yat.mp (List.mem_of_find?_eq_some hs);rw[<-e];refine zmF (fun z d=>?_) y (yca.mp h).1;rw[yaD]at d
    cases f:gr[k]? with
    |none=>rw[f]at d;cases d|some o=>rw[f]at d;exact I o (ybm f) z d
   ·exact g _ _ x z
def zrD{n:Nat}(h1:1<=n){t:List Int}(h:∀x∈t,0<=x/\x<n){i:Nat}:0<=t.getD i 0/\t.getD i 0<n:=by
 rw[yaD]
 cases a:t[i]? with
 |none=>exact⟨Int.le_refl _,Int.ofNat_lt.mpr h1⟩|some x=>exact h x (ybm a)
def fn(ts:Z2)(r c:Nat)(g:Z1)(i j:Nat):Int:=(fw ts r c g).getD (i*c+j) 0
theorem zwj(P:FP ts r c)(I:InT ts g){i j:Nat}:0<=fn ts r c g i j/\fn ts r c g i j<ts.length:=zrD P.h1 (zq0 (zg4 I) _ _ _)
def zm8(ts:Z2)(r c:Nat)(g:Z1)(i j:Nat):Bool:=(g i j).isNone&&!decide (nW ts r c g=0)&&decide (((nW ts r c (zgJ g i j (some (fn ts r c g i j))):Nat):Int)=nW ts r c g)
def zkn(ts:Z2)(r c:Nat)(g:Z1):D->List D
 |.tup [.int i,.int j]=>if zm8 ts r c g i.toNat j.toNat then[.tup [plD i.toNat j.toNat,.int (fn ts r c g i.toNat j.toNat)]]else[]
 |_=>[]
def zkl:zkn ts r c g (plD i j)=if zm8 ts r c g i j then[.tup [plD i j,.int (fn ts r c g i j)]]else[]:=by
 show(if zm8 ts r c g ((i:Int).toNat) ((j:Int).toNat)then _ else _)=_;rw[yaO,yaO]
def zdk(ts:Z2)(r c:Nat)(g:Z1):List D:=(zcs r c).flatMap (zkn ts r c g)
def zk5(h:nW ts r c g=0):zdk ts r c g=[]:=by
 unfold zdk;rw[List.flatMap_eq_nil_iff];intro d hd;obtain⟨i,j,_,_,rfl⟩:=zce hd;rw[zkl]
 have:zm8 ts r c g i j=false:=by unfold zm8;rw[h];simp
 rw[this];rfl
def zkY(hd:d∈zdk ts r c g):∃i j,i<r/\j<c/\d=.tup [plD i j,.int (fn ts r c g i j)]:=by
 obtain⟨p,a,hd⟩:=yb5.mp hd;obtain⟨i,j,hi,b,rfl⟩:=zce a;rw[zkl]at hd;split at hd
 ·exact⟨i,j,hi,b,yaI.mp hd⟩
 ·exact(yaM hd).elim
def zkm:(zkn ts r c g d).length<=1:=by
 unfold zkn;split
 ·split<;>simp
 ·simp
noncomputable def zgO(g:Z1):D->Bool|.tup [.int i,.int j]=>(g i.toNat j.toNat).isNone|_=>false
def zjA:zgO g (plD i j)=(g i j).isNone:=by
 show(g ((i:Int).toNat) ((j:Int).toNat)).isNone=_;rw[yaO,yaO]
def zt1:zdF (oD o)=o.isNone:=by cases o<;>rfl
def zn5(h1:1<=r)(I:r<=100)(J:c<=100):zcm [flr r c g] S=.ok (.lst ((zcs r c).filter (zgO g))) S:=by
 have h:=zcr (g:=g) (S:=S) (c:=c) h1 I J
 have a:=zd2 (tg:=.one 0) (c:=zaf zki (eFn zao [(zaa 1),(zaa 0)]) (zad .non)) (elt:=zaa 0) (ag:=[none,~~~flr r c g]) (S:=S) (g:=id) (p:=zgO g) (ds:=zcs r c) (by
  intro d hd;obtain⟨i,j,hi,e,rfl⟩:=zce hd;have n1:=zbU (g:=g) (S:=S) hi e;refine⟨_,rfl,?_,fun _=>rfl⟩;rw[zjA,<-zt1];generalize flr r c g=f,plD i j=pp at*
  simp[n1])
 rw[List.map_id]at a
 have b:((zcs r c).filter (zgO g)).length<=100000:=by
  refine yak (ybi _ _) ?_;rw[zdO];exact yak (ybN I J) (by decide)
 generalize (zcs r c).filter (zgO g)=res,flr r c g=f at*;simp[zcm,zaj,zds,h,a,b]
def zkr:eqD (.int a) (.int b)=some (.bl (decide (a=b))):=by
 simp[eqD,zgW,D.py,PyData.eqv];rfl
theorem zkQ(P:FP ts r c)(I:InT ts g)(S:Sto):∃S',Lg S S'/\zeI [.tup (ts.map zah),flr r c g] S=.ok (.lst (zdk ts r c g)) S':=by
 obtain⟨S1,g1,u⟩:=zf0 P I S;have z:=zkr (a:=(nW ts r c g:Nat)) (b:=0)
 by_cases e:nW ts r c g=0
 ·rw[zk5 e];rw[e]at u;refine⟨S1,g1,?_⟩;have q:eqD (.int 0) (.int 0)=some (.bl true):=rfl;generalize flr r c g=C at*;simp at u;simp[zeI,zaj,zfL,u,q]
 ·obtain⟨S2,g2,T⟩:=zn2 P I e S1;have R:=zn5 (g:=g) (S:=S2) P.r1 (show r<=100 by have:=P.r6;omega) (show c<=100 by have:=P.c6;omega);have r6:=P.r6;have c6:=P.c6
  have v:((zcs r c).filter (zgO g)).flatMap (zkn ts r c g)=zdk ts r c g:=by
   unfold zdk
   have:∀l:List D,(∀d∈l,∃i j,i<r/\j<c/\d=plD i j)->(l.filter (zgO g)).flatMap (zkn ts r c g)=l.flatMap (zkn ts r c g):=by
    intro l
    induction l with
    |nil=>intro _;rfl|cons d l H=>
     intro hm;obtain⟨i,j,_,_,rfl⟩:=hm d yay;have h:=H fun d hd=>hm d (yas _ hd)
     rw[List.filter_cons,zjA,ybA]
     cases y:g i j with
     |none=>simp only[Option.isNone_none,ycX,ybA,h]|some x=>
      have:zkn ts r c g (plD i j)=[]:=by
       rw[zkl]
       have:zm8 ts r c g i j=false:=by unfold zm8;rw[y];rfl
       rw[this];rfl
      simp only[Option.isNone_some,yaK,ybr,h,this,ybQ]
   exact this _ fun d hd=>zce hd
  have n:∀d∈(zcs r c).filter (zgO g),∃i j,i<r/\j<c/\d=plD i j/\g i j=none:=fun d hd=>by
   obtain⟨h1,h2⟩:=yca.mp hd;obtain⟨i,j,hi,t,rfl⟩:=zce h1;rw[zjA]at h2;exact⟨i,j,hi,t,rfl,Option.isNone_iff_eq_none.mp h2⟩
  have J:((zcs r c).filter (zgO g)).length<=100:=by
   refine yak (ybi _ _) ?_;rw[zdO];have:=P.rc;omega
  rw[<-v];generalize (zcs r c).filter (zgO g)=ps at*
  obtain⟨F,U,E,x5,x6,rfl,g3⟩:=zgp (tg:=.one 5) (body:=zef) (ds:=ps) (fun k ρ S=>∃x5 x6,ρ=[~~~.tup (ts.map zah),~~~flr r c g,~~~.int (nW ts r c g:Nat),~~~(flr r c (zbr c (fw ts r c g))),some (true,.lst ((ps.take k).flatMap (zkn ts r c g))),x5,x6]/\Lg S2 S) (by
   rintro k d ρ S hd ⟨x5,x6,rfl,O⟩;obtain⟨i,j,hi,t,rfl,y⟩:=n d (ybm hd)
   have Q:ps.take (k+1)=ps.take k++[plD i j]:=by
    rw[ycQ,hd];rfl
   rw[Q,List.flatMap_append,List.flatMap_singleton,zkl]
   have M:((ps.take k).flatMap (zkn ts r c g)).length<=100000:=by
    have:=ziH (g:=zkn ts r c g) (m:=1) (l:=ps.take k) fun d _=>zkm
    rw[ybF]at this;omega
   have n1:=zbU (g:=zbr c (fw ts r c g)) (S:=S) hi t;have n1:zao [flr r c (zbr c (fw ts r c g)),plD i j] S=.ok (oD (some (fn ts r c g i j))) S:=n1;have A:=zwj (i:=i) (j:=j) P I;have w:=zdc (ts:=ts) (g:=g) (o:=some (fn ts r c g i j)) (S:=S) (fun x f=>by cases f;exact A) P.r1 hi t (by omega) (by omega);obtain⟨S',N,p⟩:=zf0 (g:=zgJ g i j (some (fn ts r c g i j))) P (zme I fun x f=>by cases f;exact A) S;have q:=zkr (a:=(nW ts r c (zgJ g i j (some (fn ts r c g i j))):Nat)) (b:=(nW ts r c g:Nat))
   have B:decide (((nW ts r c (zgJ g i j (some (fn ts r c g i j))):Nat):Int)=nW ts r c g)=zm8 ts r c g i j:=by unfold zm8;rw[y,yaH e];rfl
   rw[B]at q;clear B;refine⟨_,[~~~.tup (ts.map zah),~~~flr r c g,~~~.int (nW ts r c g:Nat),~~~(flr r c (zbr c (fw ts r c g))),some (true,.lst ((ps.take k).flatMap (zkn ts r c g)++if zm8 ts r c g i j then[.tup [plD i j,.int (fn ts r c g i j)]]else[])),~~~plD i j,~~~.int (fn ts r c g i j)],S',rfl,?_,_,_,rfl,O.trans N⟩;have K:oD (some (fn ts r c g i j))=.int (fn ts r c g i j):=rfl;rw[K]at n1 w;generalize (ps.take k).flatMap (zkn ts r c g)=L,nW ts r c (zgJ g i j (some (fn ts r c g i j)))=n2,nW ts r c g=G,flr r c (zgJ g i j (some (fn ts r c g i j)))=f1,flr r c (zbr c (fw ts r c g))=f2,flr r c g=C,fn ts r c g i j=V,plD i j=pp at*
   cases s:zm8 ts r c g i j with
   |true=>rw[s]at q;simp[zef,n1,w,p,q,M]|false=>rw[s]at q;simp[zef,n1,w,p,q])
   (ρ:=[~~~.tup (ts.map zah),~~~flr r c g,~~~.int (nW ts r c g:Nat),~~~(flr r c (zbr c (fw ts r c g))),some (true,.lst []),none,none]) (S:=S2) ⟨none,none,rfl,.refl⟩
  rw[List.take_length]at E;refine⟨U,(g1.trans g2).trans g3,?_⟩;rw[yaH (by omega)]at z;generalize ps.flatMap (zkn ts r c g)=res,nW ts r c g=G,flr r c (zbr c (fw ts r c g))=f2,flr r c g=C at*;simp[zeI,zaj,zfL,u,z,T,R,E]
end
variable{r c:Nat}{g:Z1}{S:Sto}{x y p:ST.IP}
noncomputable def inF(r c:Nat)(x:ST.IP):Prop:=(0<=x.1/\x.1<(r:Int))/\0<=x.2/\x.2<(c:Int)
noncomputable instance:Decidable (inF r c x):=by unfold inF;exact inferInstance
theorem ztE(h:inF r c x):∃i j:Nat,i<r/\j<c/\pD x=plD i j/\x.1.toNat=i/\x.2.toNat=j:=by
 obtain⟨⟨a,b⟩,d,e⟩:=h;refine⟨x.1.toNat,x.2.toNat,by omega,by omega,?_,rfl,rfl⟩;show D.tup [.int x.1,.int x.2]=D.tup [.int _,.int _];rw[ycr a,ycr d]
noncomputable def zwI(r c:Nat):List ST.IP:=(List.range r).flatMap fun(i:Nat)=>(List.range c).map fun(j:Nat)=>((i:Int),(j:Int))
def zpc:(zwI r c).length=r*c:=by
 unfold zwI;rw[List.length_flatMap];simp[List.map_const']
def zpb(h:inF r c x):x∈zwI r c:=by
 obtain⟨⟨a,b⟩,d,e⟩:=h;refine yb5.mpr ⟨x.1.toNat,ybd.mpr (by omega),yat.mpr ⟨x.2.toNat,ybd.mpr (by omega),?_⟩⟩;show(((x.1.toNat:Nat):Int),((x.2.toNat:Nat):Int))=(x.1,x.2);rw[ycr a,ycr d]
theorem zka{α:Type}[BEq α][LawfulBEq α]:∀{l m:List α},l.Nodup->(∀x∈l,x∈m)->l.length<=m.length
 |[],_,_,_=>yaF _|a::l,m,nd,h=>by
  rw[ybk]at nd;have d:=h a (.head _)
  have:=zka (l:=l) (m:=m.erase a) nd.2 fun x c=>by
   have b:x≠a:=fun z=>nd.1 (z ▸ c)
   exact(List.mem_erase_of_ne b).mpr (h x (.tail _ c))
  rw[List.length_erase_of_mem d]at this;have e:0<m.length:=List.length_pos_of_mem d;rw[yar];omega
noncomputable def zuJ(x:ST.IP):List ST.IP:=[(x.1-1,x.2),(x.1,x.2-1),(x.1,x.2+1),(x.1+1,x.2)]
def zgH:zcI [pD x] S=.ok (.lst ((zuJ x).map pD)) S:=by
 simp[zcI,zaj,zdU,zuJ,pD]
noncomputable def okC(r c:Nat)(g:Z1)(x y:ST.IP):Bool:=decide (inF r c y/\g y.1.toNat y.2.toNat=g x.1.toNat x.2.toNat)
def alk(r c:Nat)(g:Z1)(x:ST.IP):List ST.IP:=(zuJ x).filter (okC r c g x)
def znz:(alk r c g x).length<=4:=ybi _ _
def zpE(h:inF r c x):zao [flr r c g,pD x] S=.ok (oD (g x.1.toNat x.2.toNat)) S:=by
 obtain⟨i,j,hi,a,e,d,b⟩:=ztE h;rw[e,d,b];exact zbU hi a
def zm4(h1:1<=r):zay [flr r c g,pD x] S=.ok (.bl (decide (inF r c x))) S:=zck h1
def zl5(h1:1<=r)(I:inF r c x):zb6 [flr r c g,pD x] S=.ok (.lst ((alk r c g x).map pD)) S:=by
 have e:zbE (.one 0) (zgB (eFn zay [(zaa 1),(zaa 0)]) (zaf eqD (eFn zao [(zaa 1),(zaa 0)]) (zag 2))) (zaa 0) [none,~~~flr r c g,~~~oD (g x.1.toNat x.2.toNat)] ((zuJ x).map pD) S=.ok ((alk r c g x).map pD) S:=by
  rw[zd2 (g:=id) (p:=fun d=>match zf7 d with|some y=>okC r c g x y|none=>false)]
  ·rw[List.map_id,List.filter_map];rfl
  ·intro d hd;obtain⟨y,_,rfl⟩:=yat.mp hd;refine⟨_,rfl,?_,fun _=>by simp⟩;have h:=zm4 (g:=g) (c:=c) (x:=y) (S:=S) h1;show _=Out.ok (D.bl (okC r c g x y)) S;unfold okC
   by_cases f:inF r c y
   ·have m:=zpE (g:=g) (S:=S) f;have l:=zwp (a:=g y.1.toNat y.2.toNat) (b:=g x.1.toNat x.2.toNat);generalize oD (g y.1.toNat y.2.toNat)=o,oD (g x.1.toNat x.2.toNat)=i,flr r c g=F,pD y=py at*;simp[h,m,l,f]
   ·generalize flr r c g=F at*;generalize pD y=py at*;simp[h,f]
 have n:=zpE (g:=g) (S:=S) I;have k:=zgH (x:=x) (S:=S)
 have j:((alk r c g x).map pD).length<=100000:=by rw[yaf];exact yak znz (by decide)
 generalize (alk r c g x).map pD=A,(zuJ x).map pD=C,oD (g x.1.toNat x.2.toNat)=i,flr r c g=F,pD x=px at*;simp[zb6,zaj,zcZ,n,k,e,j]
noncomputable def stp(s:List ST.IP×List ST.IP)(n:ST.IP):List ST.IP×List ST.IP:=if n∈s.1 then s else(s.1++[n],s.2++[n])
structure Dv(r c:Nat)(s:List ST.IP×List ST.IP):Prop where
 nd:s.1.Nodup
 ir:∀q∈s.1,inF r c q
 sub:∀q∈s.2,q∈s.1
 le:s.2.length<=s.1.length
 ne:s.1≠[]
def Dv.len(h:Dv r c s):s.1.length<=r*c:=by
 rw[<-zpc];exact zka h.nd fun q a=>zpb (h.ir q a)
theorem Dv.stp{s:List ST.IP×List ST.IP}(h:Dv r c s)(I:inF r c x):Dv r c (stp s x)/\(stp s x).2.length+s.1.length=(stp s x).1.length+s.2.length/\s.1.length<=(stp s x).1.length:=by
 unfold S2.stp;split
 ·exact⟨h,by omega,by omega⟩
 ·rename_i f;refine⟨⟨?_,fun q d=>?_,fun q d=>?_,?_,by simp⟩,?_,?_⟩
  ·rw[List.nodup_append];exact⟨h.nd,by simp,fun a g b e=>by rw[yaI]at e;subst e;exact fun z=>f (z ▸ g)⟩
  ·rcases ybj.mp d with z|z
   ·exact h.ir q z
   ·rw[yaI.mp z];exact I
  ·rcases ybj.mp d with z|z
   ·exact ybO _ (h.sub q z)
   ·exact yaJ _ z
  all_goals simp only[yap,ybb]
  ·have:=h.le;omega
  ·omega
  ·omega
noncomputable abbrev mkA(F:D)(p:ST.IP)(s:List ST.IP×List ST.IP)(h n:Option (Bool×D)):Env:=[~~~F,~~~pD p,some (true,zfM s.1),some (true,.lst (s.2.map pD)),h,n]
def znu(h1:s.1.length<=1000)(h2:s.2.length<=1000):zcQ (mkA F p s h (~~~pD x)) S=.nx (mkA F p (stp s x) h (~~~pD x)) S:=by
 have a:=zt3 (S:=S) (i:=2) (f:=zaa 5) (ρ:=mkA F p s h (~~~pD x)) (p:=x) (S1:=S) rfl (by simp)
 by_cases b:x∈s.1
 ·rw[yaB b]at a;rw[show stp s x=s from if_pos b];unfold mkA at a ⊢;generalize zfM s.1=X,s.2.map pD=W at*;simp[zcQ,a]
 ·rw[yaH b]at a;rw[show stp s x=(s.1++[x],s.2++[x])from if_neg b];have c:=zti (S:=S) (i:=2) (j:=5) (ρ:=mkA F p s h (~~~pD x)) (p:=x) (ps:=s.1) rfl rfl b (by omega)
  have d:(s.2.map pD).length<=100000:=by rw[yaf];omega
  unfold mkA at a c ⊢;rw[show(s.2++[x]).map pD=s.2.map pD++[pD x]by rw[ybC];rfl];generalize zfM (s.1++[x])=e,zfM s.1=X,s.2.map pD=W at*;simp[zcQ,a,c,d]
def zk3(J:r*c<=60):∀(l:List ST.IP) (s:List ST.IP×List ST.IP) (n:Option (Bool×D)),(∀x∈l,inF r c x)->Dv r c s->∃s' I,(∀S,zeq (.one 5) zcQ (l.map pD) (mkA F p s h n) S=.nx (mkA F p s' h I) S)/\Dv r c s'/\s'.2.length+s.1.length=s'.1.length+s.2.length/\s.1.length<=s'.1.length:=by
 intro l
 induction l with
 |nil=>intro s n _ hd;exact⟨s,n,fun S=>by simp[zeq],hd,by omega,by omega⟩
 |cons x l d=>
  intro s n b hd;obtain⟨d1,k,j⟩:=hd.stp (b x (.head _));obtain⟨s',I,e,d2,i,g⟩:=d (stp s x) (~~~pD x) (fun y f=>b y (.tail _ f)) d1;refine⟨s',I,fun S=>?_,d2,by omega,by omega⟩;have hlen:=hd.len;have hle:=hd.le;rw[yav];unfold zeq;show(match zcQ (mkA F p s h (~~~pD x)) S with|.nx a S'=>zeq (.one 5) zcQ (l.map pD) a S'|.ct a S'=>zeq (.one 5) zcQ (l.map pD) a S'|.bk a S'=>.nx a S'|o=>o)=_;rw[znu (by omega) (by omega)];exact e S
def zsd{cd:Fe}{body:Fs}{α:Type}{I:α->Env->Prop}{fin:α->Prop}(m:α->Nat)(step:∀a ρ,I a ρ->((∀S,cd ρ S=.ok (.bl false) S)/\fin a)\/((∀S,cd ρ S=.ok (.bl true) S)/\∃U J,(∀S,body ρ S=.nx J S)/\I U J/\m U<m a)):∀(n:Nat) (a:α) (ρ:Env),I a ρ->m a<n->∃U J,(∀S,zdz cd body n ρ S=.nx J S)/\I U J/\fin U:=by
 intro n
 induction n with
 |zero=>intro a ρ _ h;exact absurd h (ybT _)|succ n f=>
  intro a ρ d hm
  rcases step a ρ d with⟨e,hf⟩|⟨e,U,J,k,c,g⟩
  ·refine⟨a,ρ,fun S=>?_,d,hf⟩;unfold zdz;rw[e];rfl
  ·obtain⟨a2,b,j,i⟩:=f U J c (by omega);refine⟨a2,b,fun S=>?_,i⟩;unfold zdz;rw[e];show(match body ρ S with|.nx J S'=>zdz cd body n J S'|.ct J S'=>zdz cd body n J S'|.bk J S'=>.nx J S'|o=>o)=_;rw[k];exact j S
theorem zjV(h1:1<=r)(hc:c<=100)(J:r*c<=60)(U:inF r c p):∃L,(∀x∈L,inF r c x)/\L≠[]/\L.length<=100000/\∀S,zfq [flr r c g,pD p] S=.ok (.lst (L.map pD)) S:=by
 have h0:Dv r c ([p],[p]):=⟨by simp,fun q k=>by rw[yaI.mp k];exact U,fun q k=>k,yag _,by simp⟩
 obtain⟨s,G,e,⟨h,n,hd,rfl⟩,m⟩:=zsd (cd:=zaf gtD (zax zeg [(zag 3)]) (zad (.int 0))) (body:=zfO) (I:=fun s ρ=>∃h n,Dv r c s/\ρ=mkA (flr r c g) p s h n) (fin:=fun s=>s.2=[]) (fun s=>2*(r*c-s.1.length)+s.2.length)
  (by
   rintro⟨f,w⟩ ρ ⟨h,n,hd,rfl⟩;have hlen:=hd.len
   rcases List.eq_nil_or_concat w with rfl|⟨a,here,rfl⟩
   ·refine .inl ⟨fun S=>?_,rfl⟩;unfold mkA;generalize zfM _=X at*;simp
   ·rw[List.concat_eq_append]at*;refine .inr ⟨fun S=>?_,?_⟩
    ·unfold mkA;generalize zfM _=X at*;simp
    ·have B:Dv r c (f,a):=⟨hd.nd,hd.ir,fun q k=>hd.sub q (ybO _ k),by have:=hd.le;simp only[yap,ybb]at this;dsimp only;omega,hd.ne⟩;have y:=hd.ir here (hd.sub here (yaJ _ (.head _)));obtain⟨s',H,u,t,M,K⟩:=zk3 (F:=flr r c g) (p:=p) (h:= ~~~pD here) J (alk r c g here) (f,a) n (fun x b=>(yai (yca.mp b).2).1) B;have v:=t.len;refine⟨s',_,fun S=>?_,⟨~~~pD here,H,t,rfl⟩,by show 2*(r*c-s'.1.length)+s'.2.length<2*(r*c-f.length)+(a++[here]).length;rw[yap,ybb];dsimp only at M K hlen;omega⟩;have R:=zl5 (g:=g) (S:=S) h1 y;have u:=u S;have ep:=zvM (S:=S) (i:=4) (j:=3) (ρ:=mkA (flr r c g) p (f,a++[here]) h n) (l:=a.map pD) (d:=pD here) (by show some (some (true,D.lst ((a++[here]).map pD)))=_;rw[ybC];rfl)
     have C:((alk r c g here).map pD).length<=100000:=by rw[yaf];exact yak znz (by decide)
     unfold mkA at ep u ⊢;dsimp only at ep u ⊢;generalize (alk r c g here).map pD=A,zfM f=X,zfM s'.1=W,a.map pD=W0,(a++[here]).map pD=W1,s'.2.map pD=Z,flr r c g=F,pD here=V,pD p=pp at*
     simp[zfO,ep,R,u,C])
  100000 ([p],[p]) (mkA (flr r c g) p ([p],[p]) none none) ⟨none,none,h0,rfl⟩ (by
   show 2*(r*c-1)+1<100000
   omega)
 obtain⟨f,w⟩:=s;have N:w=[]:=m;subst N;have hlen:f.length<=r*c:=hd.len
 have ok:zpD f=true:=by
  unfold zpD;rw[yab,yab,ybG];refine⟨⟨yaB (by omega),fun x b=>?_⟩,yaB hd.nd⟩;have:=(hd.ir x b).2;apply yaB;omega
 have pm:=zdi f;refine⟨zfu f,fun x b=>hd.ir x (pm.mem_iff.mp b),fun z=>hd.ne ?_,by rw[pm.length_eq];omega,fun S=>?_⟩
 ·rw[z]at pm;exact pm.nil_eq.symm
 ·have P:zaq [flr r c g,pD p] S=.ok .non S:=by
   obtain⟨i,j,hi,O,e,_,_⟩:=ztE U;rw[e];exact zel h1 hi O
  have Q:=zrI (S:=S) (i:=1) (ρ:=[~~~flr r c g,~~~pD p,none,none,none,none]) (p:=p) rfl;have T:zdz (zaf gtD (zax zeg [(zag 3)]) (zad (.int 0))) zfO 100000 [~~~flr r c g,~~~pD p,some (true,zfM [p]),some (true,.lst [pD p]),none,none] S=.nx [~~~flr r c g,~~~pD p,some (true,zfM f),some (true,.lst []),h,n] S:=e S;have E:=zsN (S:=S) (i:=2) (o:=false) (ps:=f) (ρ:=[~~~flr r c g,~~~pD p,~~~zfM f,some (true,.lst []),h,n]) rfl ok;generalize (zfu f).map pD=A,zfM f=X,zfM [p]=Y,pD p=pp,flr r c g=F at*;simp[zfq,zaj,zng,P,Q,zjR,T,E]
def zkU(h1:1<=r)(h:¬ inF r c x):zaq [flr r c g,pD x] S=.exc "NoPlace" S:=by
 have a:=zm4 (g:=g) (c:=c) (x:=x) (S:=S) h1;rw[yaH h]at a;generalize flr r c g=b,pD x=pp at*;simp[zaq,zaj,zbB,a]
end S2
namespace S2
open PySem
open L2 hiding D
noncomputable def pnt(T x:D)(bf af:List D):Ob:=⟨"Painter",[("tiles",false,T),("now",false,x),("before",true,.tup [.lst bf]),("after",true,.tup [.lst af])]⟩
noncomputable def Sn(n:Nat)(o:Ob)(S S':Sto):Prop:=S'[n]?=some o/\∀m,m≠n->S'[m]?=S[m]?
section
variable{ρ:Env}{S S1 S2:Sto}{T x w d:D}{bf af:List D}{n:Nat}{o u:Ob}
theorem Sn.set(h:S[n]?=some o):Sn n u S (S.set n u):=⟨yam (yal.mp h).1,fun _ hm=>yax (Ne.symm hm)⟩
theorem Sn.trans(h:Sn n o S S1)(k:Sn n u S1 S2):Sn n u S S2:=⟨k.1,fun m hm=>(k.2 m hm).trans (h.2 m hm)⟩
def zml:zdQ (pnt T x bf af)=true:=by
 show decide (["tiles","now","before","after"]:List Str).Nodup=true;decide
def zfJ(h:S[n]?=some (pnt T x bf af)):zhJ "Painter" "tiles" (.ref n) S=some T:=by unfold zhJ;dsimp only;rw[h];rfl
def zgY(h:S[n]?=some (pnt T x bf af)):zhJ "Painter" "now" (.ref n) S=some x:=by unfold zhJ;dsimp only;rw[h];rfl
def zqS(h:S[n]?=some (pnt T x bf af)):zow "Painter" "before" ((~~~.ref n)::ρ) S 0=some (n,pnt T x bf af,.lst bf):=by
 show zq1 "Painter" "before" (.ref n) S=_;dsimp only[zq1];rw[h];rfl
def ztt(h:S[n]?=some (pnt T x bf af)):zow "Painter" "after" ((~~~.ref n)::ρ) S 0=some (n,pnt T x bf af,.lst af):=by
 show zq1 "Painter" "after" (.ref n) S=_;dsimp only[zq1];rw[h];rfl
def zdf(h:S[n]?=some (pnt T x bf af))(hm:(m==("tiles":Str))=false/\(m==("now":Str))=false/\(m==("before":Str))=false/\(m==("after":Str))=false):zbT "Painter" m (.ref n) S=true:=by
 unfold zbT;dsimp only;rw[h];obtain⟨h1,h2,a,h4⟩:=hm;simp[pnt,yaA,h1,h2,a,h4]
def zxx(h:S[n]?=some (pnt T x bf af)):zps "Painter" "now" (zjZ 0) ((~~~.ref n)::ρ) S=some x:=zgY h
def ztr(h:S[n]?=some (pnt T x bf af))(I:bf.length<=100000):zhm "Painter" "before" 0 (zps "Painter" "now" (zjZ 0)) ((~~~.ref n)::ρ) S=.nx ((~~~.ref n)::ρ) (S.set n (pnt T x (bf++[x]) af)):=by
 unfold zhm;rw[zqS h,zxx h];dsimp only;rw[zml,zlu,yaB I];rfl
def zts(h:S[n]?=some (pnt T x bf af))(I:af.length<=100000):zhm "Painter" "after" 0 (zps "Painter" "now" (zjZ 0)) ((~~~.ref n)::ρ) S=.nx ((~~~.ref n)::ρ) (S.set n (pnt T x bf (af++[x]))):=by
 unfold zhm;rw[ztt h,zxx h];dsimp only;rw[zml,zlu,yaB I];rfl
def ztm(h:S[n]?=some (pnt T x [d] af)):zk9 "Painter" "before" 0 ((~~~.ref n)::ρ) S=.ok d (S.set n (pnt T x [] af)):=by
 unfold zk9;rw[zqS h];dsimp only;rw[zml];rfl
def ztn(h:S[n]?=some (pnt T x bf af)):zgF "Painter" "after" 0 ((~~~.ref n)::ρ) S=.nx ((~~~.ref n)::ρ) (S.set n (pnt T x bf [])):=by
 unfold zgF;dsimp only[ycG];rw[h];rfl
def zpv(h:S[n]?=some (pnt T x bf af)):zg1 "Painter" "now" ρ w (.ok (.ref n) S)=.nx ρ (S.set n (pnt T w bf af)):=by
 show(match S[n]? with|some ob=>_|none=>_)=_;rw[h];rfl
def zmk(h:S[n]?=some (pnt T x bf af)):zgN "Painter" "before" 0 ((~~~.ref n)::ρ) S=.ok (.int bf.length) S:=by
 unfold zgN;rw[zqS h]
def zto(h:S[n]?=some (pnt T x bf af)):zgN "Painter" "after" 0 ((~~~.ref n)::ρ) S=.ok (.int af.length) S:=by
 unfold zgN;rw[ztt h]
def zd6(h:S[n]?=some (pnt T x bf af)):zau [.ref n] S=.ok x S:=by
 simp[zau,zaj,zcF,zgY h]
def zj2(h:S[n]?=some (pnt T x bf af)):zaD [.ref n] S=.ok (.tup [.int bf.length,.int af.length]) S:=by
 simp[zaD,zaj,zcE,zto h,zmk h]
def zfc(h:S[n]?=some (pnt T x bf af))(e:zbM [T,x] S=.ok d S1):zar [.ref n] S=.ok d S1:=by
 simp[zar,zaj,zb1,zgY h,zfJ h,e]
def chP(T x w:D):Ob:=if zgW w x then pnt T x [] []else pnt T w [x] []
theorem ztv(h:S[n]?=some (pnt T x [] []))(f2:x.fit 9=true)(e:zaF [T,x,p,m] S=.ok w S)(f1:w.fit 9=true):∃S',zaL [.ref n,p,m] S=.ok .non S'/\Sn n (chP T x w) S S':=by
 have q:neD w x=some (.bl (!zgW w x)):=by unfold neD;rw[f1,f2];rfl
 have k:=zdf (m:="change_to") h (by decide +kernel);unfold chP
 cases a:zgW w x with
 |true=>
  rw[a]at q;exact⟨S,by simp[zaL,zaj,zbP,za3,za6,zgY h,zfJ h,k,e,q],h,fun _ _=>rfl⟩
 |false=>
  rw[a]at q;have b:=ztr (ρ:=[~~~w]) h (by decide);have h1:=Sn.set (u:=pnt T x [x] []) h;dsimp only[ybQ]at b;generalize S.set n (pnt T x [x] [])=S1 at*;have c:=ztn (ρ:=[~~~w]) h1.1;have h2:=h1.trans (Sn.set (u:=pnt T x [x] []) h1.1);generalize S1.set n (pnt T x [x] [])=S2 at*;refine⟨_,?_,h2.trans (Sn.set (u:=pnt T w [x] []) h2.1)⟩;simp[zaL,zaj,zbP,za3,za6,zgY h,zfJ h,k,e,q,b,c,zpv h2.1]
def zqX(h:S[n]?=some (pnt T x bf af))(e:zaF [T,x,p,m] S=.exc c S1):zaL [.ref n,p,m] S=.exc c S1:=by
 have k:=zdf (m:="change_to") h (by decide +kernel);simp[zaL,zaj,zbP,zgY h,zfJ h,k,e,ziB]
theorem zqW(h:S[n]?=some (pnt T x [d] [])):∃S',zaO [.ref n] S=.ok .non S'/\Sn n (pnt T d [] [x]) S S':=by
 have a:=zts (ρ:=[]) h (by decide);have h1:=Sn.set (u:=pnt T x [d] [x]) h;dsimp only[ybQ]at a;generalize S.set n (pnt T x [d] [x])=S1 at*;have b:=ztm (ρ:=[]) h1.1;have h2:=h1.trans (Sn.set (u:=pnt T x [] [x]) h1.1);generalize S1.set n (pnt T x [] [x])=S2 at*;refine⟨_,?_,h2.trans (Sn.set (u:=pnt T d [] [x]) h2.1)⟩;simp[zaO,zaj,zb8,zmk h,a,b,zpv h2.1]
def zom(h:S[n]?=some (pnt T x [] af)):zaO [.ref n] S=.exc "Nothing" S:=by
 simp[zaO,zaj,zb8,zmk h]
def ztp{a:Str}{fs gs:List (Str×Bool×D)}(h:S[n]?=some ⟨"Painter",fs⟩)(I:(decide (fs.length<1000),zaN a false w fs)=(true,gs)):zg1 "Painter" a ρ w (.ok (.ref n) S)=.nx ρ (S.set n ⟨"Painter",gs⟩):=by
 obtain⟨h1,rfl⟩:=Prod.mk.inj I;show(match S[n]? with|some ob=>_|none=>_)=_;rw[h];show(if(decide _&&decide (fs.length<1000))=true then _ else _)=_;rw[h1,yaB rfl];rfl
def ztq{a:Str}{fs gs:List (Str×Bool×D)}(h:S[n]?=some ⟨"Painter",fs⟩)(I:(decide (fs.length<1000),zaN a true (.tup [.lst []]) fs)=(true,gs)):zgF "Painter" a 0 ((~~~.ref n)::ρ) S=.nx ((~~~.ref n)::ρ) (S.set n ⟨"Painter",gs⟩):=by
 obtain⟨h1,rfl⟩:=Prod.mk.inj I;unfold zgF;dsimp only[ycG];rw[h];show(if(decide _&&decide (fs.length<1000))=true then _ else _)=_;rw[h1,yaB rfl];rfl
def zpx:∃S',zaM [.ref S.length,T,x] (S++[⟨"Painter",[]⟩])=.ok .non S'/\S'[S.length]?=some (pnt T x [] [])/\∀m,m<S.length->S'[m]?=S[m]?:=by
 have h:(S++[(⟨"Painter",[]⟩:Ob)])[S.length]?=some ⟨"Painter",[]⟩:=by simp
 have c:∀m,m<S.length->(S++[(⟨"Painter",[]⟩:Ob)])[m]?=S[m]?:=fun m hm=>yaZ hm
 generalize S.length=n,S++[(⟨"Painter",[]⟩:Ob)]=i at*;have g:=ztp (a:="tiles") (w:=T) (ρ:=[~~~.ref n,~~~T,~~~x]) (gs:=[("tiles",false,T)]) h rfl;have h1:=Sn.set (u:=⟨"Painter",[("tiles",false,T)]⟩) h;generalize i.set n ⟨"Painter",[("tiles",false,T)]⟩=S1 at*;have f:=ztp (a:="now") (w:=x) (ρ:=[~~~.ref n,~~~T,~~~x]) (gs:=[("tiles",false,T),("now",false,x)]) h1.1 rfl;have h2:=h1.trans (Sn.set (u:=⟨"Painter",[("tiles",false,T),("now",false,x)]⟩) h1.1);generalize S1.set n ⟨"Painter",[("tiles",false,T),("now",false,x)]⟩=S2 at*;have e:=ztq (a:="before") (ρ:=[~~~T,~~~x]) (gs:=[("tiles",false,T),("now",false,x),("before",true,.tup [.lst []])]) h2.1 rfl;have b:=h2.trans (Sn.set (u:=⟨"Painter",[("tiles",false,T),("now",false,x),("before",true,.tup [.lst []])]⟩) h2.1);generalize S2.set n ⟨"Painter",[("tiles",false,T),("now",false,x),("before",true,.tup [.lst []])]⟩=j at*;have d:=ztq (a:="after") (ρ:=[~~~T,~~~x]) (gs:=[("tiles",false,T),("now",false,x),("before",true,.tup [.lst []]),("after",true,.tup [.lst []])]) b.1 rfl;have h4:=b.trans (Sn.set (u:=⟨"Painter",[("tiles",false,T),("now",false,x),("before",true,.tup [.lst []]),("after",true,.tup [.lst []])]⟩) b.1);refine⟨_,?_,h4.1,fun m hm=>(h4.2 m (by rintro rfl;exact yaW _ hm)).trans (c m hm)⟩;simp[zaM,zaj,zbQ,g,f,e,d]
end
open PySem PySem.Spec PyProof.Rows L2
def zqb{i j a b c:Nat}{r:List D->Sto->Out D}{ρ:Env}{S:Sto}:zhl i j r a b c ρ S=.bad\/∃d,S=[]/\zi3 r a b c ρ=some d/\i<ρ.length/\j<ρ.length/\zhl i j r a b c ρ S=.nx ((ρ.set i none).set j (~~~d)) []:=by
 unfold zhl
 by_cases f:i<ρ.length/\j<ρ.length
 ·rw[if_pos f]
  cases S with
  |cons _ _=>exact .inl rfl|nil=>
   cases e:zi3 r a b c ρ with
   |none=>exact .inl rfl|some d=>exact .inr ⟨d,rfl,rfl,f.1,f.2,rfl⟩
 ·rw[if_neg f];exact .inl rfl
def zmf{X:Cx}{cl:Cf}{E:St->XK}{own:Bool}{k a b c i j:Nat}{t u x y z:Str}{r:List D->Sto->Out D}{p1 p2 p3 p4 p5 p6 p7 q1 q2 q3 q4 q5 r1 r2 r3 r4:Pos}{zcd:List Stmt}{fr:Fs}(I:Room k X.A)(nd:X.N.Nodup)(ps:zdy (CXE X.prog X.w) X E)
  (ht:SlotN X i t) (lt:Loc X.env.scope t) (ft:X.fn t=true\/X.env.scope.names.lookup t=some .local) (hu:X.N[j]?=some u) (lu:Loc X.env.scope u) (fu:X.fn u=true\/X.env.scope.names.lookup u=some .local) (J:i≠j)
  (ha:SlotN X a x) (hb:SlotN X b y) (hc:SlotN X c z) {pl:List Str} (U:FnAt X k "_law_lists" pl (zgA cl 3 false r)) (fc:FnAt X k "_law_copied" ["_law_thing"] (zco 20)) (fs:FnAt X k "_law_spoil" ["_law_thing"] (ze9 20)) (hr:PSs X zcd (tS cl E own fr)):
  PSs X (.Assign [.Name t p1] (.Call (.Name "_law_lists" p2) [.Name x p3,.Name y p4,.Name z p5] [] p6) p7::.Assign [.Name u q1] (.Call (.Name "_law_copied" q2) [.Name t q3] [] q4) q5::.Expr (.Call (.Name "_law_spoil" r1) [.Name t r2] [] r3) r4::zcd) (tS cl E own (zac (zhl i j r a b c) fr)):=by
 obtain⟨f1,L,F,m,T,F1⟩:=U.ex;obtain⟨f2,K,C,l,Q,F2⟩:=fc.ex;obtain⟨Y,G,v,h,P,F3⟩:=fs.ex;have c1:=zj4 (p:=p2) (pos:=p6) (dvs:=[]) F1 I U.g F m T .nil ps (zam (ha.pe (pos:=p3)) (zam (hb.pe (pos:=p4)) (zam (hc.pe (pos:=p5)) zaQ))) U.d rfl rfl;have O:=zhx (p:=q2) (pos:=q4) (dvs:=[]) (E:=E0) F2 I fc.g C l Q .nil zpA (zam (ht.pe (pos:=q3)) zaQ);have M:=zhx (p:=r1) (pos:=r3) (dvs:=[]) (E:=E0) F3 I fs.g v h P .nil zpA (zam (ht.pe (pos:=r2)) zaQ);refine PSs.imp (zb7 (zis (pos:=p7) (pos':=p1) nd ht.n lt c1 (hf:=ft)) (zb7 (zis (pos:=q5) (pos':=q1) nd hu lu O (hf:=fu)) (zb7 (zcU (pos:=r4) M) hr))) ?_;rintro De σ H ⟨B,w,ρ,S,rfl,R,q⟩;have q:zhb cl E own B w De (match zhl i j r a b c ρ S with|.nx f S'=>fr f S'|o=>o):=q
 rcases zqb (i:=i) (j:=j) (r:=r) (a:=a) (b:=b) (c:=c) (ρ:=ρ) (S:=S)with z|⟨d,rfl,e,h1,h2,z⟩
 ·rw[z]at q;exact q.elim
 ·rw[z]at q;exact zlz (De:={De with nx:=tS cl E own fr De}) R e (by rw[R.len];exact h1) (by rw[R.len];exact h2) J fun s w' V W=>⟨B,w',_,[],rfl,V,q.up W⟩
structure DsA(G:Genv)(nm:Names)(N:List Str)(own full:Bool)(pre:List Stmt)where
 f:Fs->Fs
 ok:∀{cl k X E}{zcd:List Stmt}{fr:Fs},Gd cl G k X nm N E full->PSs X zcd (tS cl E own fr)->PSs X (pre++zcd) (tS cl E own (f fr))
def zwA{G:Genv}{nm:Names}{N:List Str}{own full:Bool}(ds:∀st,Option (Ds G nm N own full st)):∀b,Option (DsA G nm N own full b)
 |[]=>some ⟨id,fun _ h=>h⟩|s::r=>(ds s).bind fun a=>(zwA ds r).map fun h=>⟨fun fr=>zac a.f (h.f fr),fun g c=>zlJ (a.ok g) (h.ok g c)⟩
noncomputable def zjl(N:List Str)(nm:Names)(i:Nat)(t:Str):Bool:=decide (N[i]?=some t)&&decide (nm.lookup t=some .local)&&zg0 t
def zeS{X:Cx}{N:List Str}{nm:Names}{i:Nat}{t:Str}(h:zjl N nm i t=true)(eN:X.N=N)(I:X.env.scope.names=nm):SlotN X i t/\X.env.scope.names.lookup t=some .local:=by
 unfold zjl at h;simp only[yab,yaR]at h;obtain⟨⟨h1,h2⟩,c⟩:=h;obtain⟨b,a,_⟩:=zeO c;rw[<-I]at h2;exact⟨⟨by rw[eN];exact h1,.inl h2,b,a⟩,h2⟩
def zuu{P:Program}{wo:PySem.World}{K:PySem.W.Frag}{mg:Z6}{base:Heap}{cl:Cf}{G:Genv}{k:Nat}{x qual:Str}{st:Stmt}{f:Addr}{fd:FuncData}{N ps:List Str}{own:Bool}{pre post:List Stmt}{fp:Fs->Fs}{fq:Fs}{a b c i j:Nat}{t u y1 U J:Str}{r:List D->Sto->Out D}{p1 p2 p3 p4 p5 p6 p7 q1 q2 q3 q4 q5 r1 r2 r3 r4:Pos}
  (F:Fun K x qual st f fd) (S:FnScope N ps (zae st)) (hG:GOk cl G P wo K mg base k) (hk:K=cl.K) (hP:P=cl.P) (hW:wo=cl.wo)
  (hb:zaP st=pre++(.Assign [.Name t p1] (.Call (.Name "_law_lists" p2) [.Name y1 p3,.Name U p4,.Name J p5] [] p6) p7::.Assign [.Name u q1] (.Call (.Name "_law_copied" q2) [.Name t q3] [] q4) q5::.Expr (.Call (.Name "_law_spoil" r1) [.Name t r2] [] r3) r4::post))
  (hp:(zwA (zlc G (zae st).names N own 40 true) pre).map DsA.f=some fp) (hq:(blk (zlc G (zae st).names N own 40 true) post).map Dss.f=some fq)
  (hn:(zjl N (zae st).names i t&&zjl N (zae st).names j u&&zjl N (zae st).names a y1&&zjl N (zae st).names b U&&zjl N (zae st).names c J&&!decide (i=j))=true)
  (hg:(zbb (zae st).names "_law_lists" && zbb (zae st).names "_law_copied" && zbb (zae st).names "_law_spoil")=true) (fl:G.fn "_law_lists"=some ⟨3,false,r⟩)
  (fc:∃f fd,mg "_law_copied"=some (.ref f)/\PySem.W.keepIn K (.ref f)=true/\zbz K fd ["_law_thing"] []/\FnOk P wo K mg base (CXE P wo) k f fd ["_law_thing"] (zco 20))
  (fs:∃f fd,mg "_law_spoil"=some (.ref f)/\PySem.W.keepIn K (.ref f)=true/\zbz K fd ["_law_thing"] []/\FnOk P wo K mg base (CXE P wo) k f fd ["_law_thing"] (ze9 20)):
  FnOk P wo K mg base (CXE P wo) (k+1) f fd ps (zgA cl ps.length own (zaI N.length own (fp (zac (zhl i j r a b c) fq)))):=by
 obtain⟨oc,od,kV,doc,pm,an,d,ct,R,rfl,lk,p⟩:=F.ex;refine zm9 lk p S (fun vs H Q E h=>h.1) fun A outer s H vs Q E z m=>⟨tS cl (fun _=>E) own _,?_,zjz m⟩
 obtain⟨dp,ep,rfl⟩:=ycM.mp hp;obtain⟨dq,eq,rfl⟩:=ycM.mp hq;have g:Gd cl G k (zjv (CXE P wo) P wo K mg base N qual (zae st) f d A outer s H E) (zae st).names N (fun _=>E) true:=⟨⟨hG,z,rfl,fun pins σ H1 s1 e s' I q=>zot pins σ H1 s1 e s' I q,rfl,hk,hP,hW,S.nd,fun x kd h=>⟨kd,h,.inl rfl⟩,(fun x h=>h),(fun x h=>rfl)⟩,S.kind,rfl,fun _=>PassesOwn.leaving,fun _ C pins σ H1 s1 e h' vs I mk q=>zjc C pins σ H1 s1 e h' vs I mk q,rfl,rfl⟩;simp only[yab,yaV,yb1]at hn hg;obtain⟨⟨⟨⟨⟨n1,n2⟩,Y⟩,V⟩,T⟩,o⟩:=hn;obtain⟨⟨g1,g2⟩,g3⟩:=hg;obtain⟨s1,y⟩:=zeS (X:=zjv (CXE P wo) P wo K mg base N qual (zae st) f d A outer s H E) n1 rfl rfl;obtain⟨s2,w⟩:=zeS (X:=zjv (CXE P wo) P wo K mg base N qual (zae st) f d A outer s H E) n2 rfl rfl;obtain⟨M,_⟩:=zeS (X:=zjv (CXE P wo) P wo K mg base N qual (zae st) f d A outer s H E) Y rfl rfl;obtain⟨L,_⟩:=zeS (X:=zjv (CXE P wo) P wo K mg base N qual (zae st) f d A outer s H E) V rfl rfl;obtain⟨B,_⟩:=zeS (X:=zjv (CXE P wo) P wo K mg base N qual (zae st) f d A outer s H E) T rfl rfl;obtain⟨f1,v,O,Z,l,b1,F1⟩:=hG.fn _ _ fl;rw[hb];exact dp.ok g (zmf (k:=k) z S.nd g.gx.pass s1 (.inl y) (.inr y) s2.n (.inl w) (.inr w) o M L B ⟨⟨f1,v,Z,l,b1,F1⟩,(g.gx.glob g1).1,(g.gx.glob g1).2.1⟩ ⟨fc,(g.gx.glob g2).1,(g.gx.glob g2).2.1⟩ ⟨fs,(g.gx.glob g3).1,(g.gx.glob g3).2.1⟩ (dq.ok g))
end S2
namespace S2.L95
open PySem
open L2 hiding D
noncomputable def zvm:List (Str×Str):=[("Unlike","FloorError"),("NoPlace","FloorError"),("NoTile","FloorError"),("NoFill","FloorError"),("Nothing","FloorError")]
def isL:Str->Str->Option Bool:=zu7 ["Unlike","NoPlace","NoTile","NoFill","Nothing"] ["FloorError","NoPlace","NoTile","NoFill","Unlike","Nothing"]
noncomputable def zcG:Fs:=
  (zac (sFz [] (zlV (zsf zvm) "FloorError" 4 2 (zac (sFz [] (sIf (zaf eqD (zag 3) (zad (.int 0))) (zac (sFz [1] (zjS (zaE "Painter" "put" zaL (zaa 0) [(zaa 1),(zad (.int 0))]))) sNx) (zac (sFz [] (zjS (zaE "Painter" "undo" zaO (zaa 0) []))) sNx))) sNx))) sNx)
noncomputable def zbY:Fs:=
  (zac (sFz [] (zbd 2 true (zee [])))
  (zac (sFz [] (zgS (.one 3) (zdt (zad (.int 2))) zcG))
  (zac (sFz [] (zaJ (zgB (zaf eqD (zax zeg [(zag 2)]) (zad (.int 2))) (zgB (eUn (zr5 isL "NoPlace") (zaf ixD (zag 2) (zad (.int 0)))) (eUn (zr5 isL "Nothing") (zaf ixD (zag 2) (zad (.int 1))))))))
  sNx)))
noncomputable def zaV:List S2.D->Sto->Out S2.D:=zaI 5 false zbY
noncomputable def zdZ:Fs:=
  (zac (sFz [1,1,0,1,1] (zbd 3 true (zee [(eFn zbn [(zaa 1)]),(eFn zaG [(zaa 1)]),(eFn zbM [(zaa 0),(zaa 1)]),(eFn zhu [(zaa 1)])])))
  (zac (sFz [0,1,0,1,0,1] (zr2 3 (zee [(eFn zbW [(zaa 0),(zaa 1),(zcg [(zad (.int 0)),(zad (.int 0))])]),(eFn zcx [(zaa 0),(zaa 1),(zcg [(zad (.int 0)),(zad (.int 0))])]),(eFn zeI [(zaa 0),(zaa 1)])])))
  (zac (sFz [1,1,1,1,1] (zr2 3 (zee [(eFn zfq [(zaa 1),(zcg [(zad (.int 0)),(zad (.int 0))])]),(eFn zd4 [(zee [(zaa 1),(zaa 1)])]),(eFn zcw [(zee [(zaa 1),(zaa 1)])])])))
  (zac (sFz [2] (zaJ (zaf zbG (zag 3) (zee [(eFn zb4 [(zaa 2),(zcg [(zad (.int 0)),(zad (.int 0))])]),(eFn zdK []),(eFn zcJ [(zad (.int 3))])]))))
  sNx))))
noncomputable def zav:List S2.D->Sto->Out S2.D:=zaI 4 false zdZ
noncomputable def zhe:Fs:=zac (sFz [1,5,2] (zaJ (zgB (zaf eqD (zaE "Painter" "floor" zau (zaa 10) []) (zag 5)) (zgB (zaf eqD (zaE "Painter" "floor" zau (zaa 11) []) (zag 5)) (zaf eqD (eFn zav [(zaa 1),(zaa 5),(zaa 2)]) (zag 7)))))) sNx
noncomputable def zfD:Fs:=zac (sFz [] (sIf (zaf neD (zaE "Painter" "floor" zau (zaa 10) []) (zag 5)) (zac (sFz [] (zjS (zaE "Painter" "undo" zaO (zaa 10) []))) sNx) sNx)) zhe
noncomputable def zjH:Fs:=zac (sFz [] (sIf (eOr (zaf neD (zaE "Painter" "clashes" zar (zaa 10) []) (zaE "Painter" "clashes" zar (zaa 10) [])) (zaf neD (zee [(zaE "Painter" "floor" zau (zaa 11) []),(zaE "Painter" "clashes" zar (zaa 11) []),(zaE "Painter" "steps" zaD (zaa 11) [])]) (zag 12))) (zac (sFz [] (zaJ (zad (.bl false)))) sNx) sNx)) zfD
noncomputable def zjI:Fs:=zac (sFz [11] (sIf (eOr (zaf neD (zee [(zaE "Painter" "floor" zau (zaa 11) []),(zaE "Painter" "clashes" zar (zaa 11) []),(zaE "Painter" "steps" zaD (zaa 11) [])]) (zag 12)) (eUn zeP (eFn zaV [(zaa 11),(zcg [(zad (.int 99)),(zad (.int 0))])]))) (zac (sFz [] (zaJ (zad (.bl false)))) sNx) sNx)) zjH
noncomputable def zfE:Fs:=zac (sFz [] (zie (zaE "Painter" "clashes" zar (zaa 10) []))) zjI
noncomputable def zjJ:Fs:=zac (sFz [0] (zjS (zaE "Painter" "put" zaL (zaa 10) [(zcg [(zad (.int 0)),(zad (.int 0))]),(eFn zaz [(zaa 0),(zad (.int 400)),(zax zeg [(zag 1)])])]))) zfE
noncomputable def zhf:Fs:=zac (sFz [] (zbd 12 false (eFn zr4 [(zee [(zaE "Painter" "floor" zau (zaa 11) []),(zaE "Painter" "clashes" zar (zaa 11) []),(zaE "Painter" "steps" zaD (zaa 11) [])])]))) zjJ
noncomputable def zlA:Fs:=zac (sFz [1,5,1,5] (zr1 10 11 false (eMk "Painter" [] zaM [(zaa 1),(zaa 5)]) false (eMk "Painter" [] zaM [(zaa 1),(zaa 5)]))) zhf
noncomputable def zlB:Fs:=zac (sFz [8,8,8,8] (sIf (eOr (zaf neD (eFn zio [(zaa 8)]) (eFn zio [(zaa 8)])) (eOr (zaf neD (eFn zd4 [(zaa 8)]) (eFn zd4 [(zaa 8)])) (zaf neD (zag 8) (zag 9)))) (zac (sFz [] (zaJ (zad (.bl false)))) sNx) sNx)) zlA
noncomputable def zlC:Fs:=zac (sFz [] (zbd 9 true (zax zmO [(zag 8)]))) zlB
noncomputable def zlD:Fs:=zac (sFz [5,5] (zbd 8 true (zee [(zaa 5),(zaa 5)]))) zlC
noncomputable def zhd:Fs:=zac (sFz [1,5,2] (sIf (zaf neD (eFn zav [(zaa 1),(zaa 5),(zaa 2)]) (zag 7)) (zac (sFz [] (zaJ (zad (.bl false)))) sNx) sNx)) zlD
noncomputable def zlE:Fs:=zac (zhl 6 7 zav 1 5 2) zhd
noncomputable def zrG(fr:Fs):Fs:=zac (sFz [0,0] (zr1 1 2 false (eFn zcK [(zaa 0),(zad (.int 0)),(zad (.int 4))]) false (eFn zbv [(zaa 0),(zad (.int 300)),(zad (.int 2)),(zad (.int 3))]))) (zac (sFz [0] (zkP (.tup [3,4]) (eFn zcL [(zaa 0),(zad (.int 90))]))) (zac (sFz [0,1,3,4] (zbd 5 false (eFn zcM [(zaa 0),(zad (.int 100)),(zaa 1),(zaa 3),(zaa 4),(zad (.int 5))]))) fr))
noncomputable def zux:Fs:=zrG zlE
noncomputable def ztd:List S2.D->Sto->Out S2.D:=zaI 13 false zux
end S2.L95
namespace S2
open PySem
open L2 hiding D
noncomputable def Pd(b:Bool)(n m:Nat)(d:D):Prop:=d.okt b n=true/\d.pl=true/\d.cst<=m
section
variable{b:Bool}{n m k:Nat}{d:D}{l:List D}
def Pd.le(h:Pd b n m d)(I:m<=k):Pd b n k d:=⟨h.1,h.2.1,yak h.2.2 I⟩
def Pd.all(h:∀d∈l,Pd b n m d):D.okts b n l=true/\D.pls l=true/\D.csts l<=l.length*m:=by
 induction l with
 |nil=>exact⟨rfl,rfl,yaF _⟩|cons d l a=>
  obtain⟨h1,h2,e⟩:=h d (.head _);obtain⟨k1,k2,k3⟩:=a fun x c=>h x (.tail _ c)
  refine⟨by rw[D.okts,h1,k1];rfl,by rw[D.pls,h2,k2];rfl,?_⟩;rw[D.csts,yar,yct,Nat.add_comm];exact Nat.add_le_add k3 e
theorem Pd.lst(I:l.length<=100000)(h:∀d∈l,Pd true n m d):Pd true (n+1) (l.length*m+1) (.lst l):=by
 obtain⟨h1,h2,a⟩:=Pd.all h;exact⟨by rw[D.okt,h1,yaB I];rfl,h2,yb4 a⟩
theorem Pd.tup(I:l.length<=100000)(h:∀d∈l,Pd b n m d):Pd b (n+1) (l.length*m) (.tup l):=by
 obtain⟨h1,h2,a⟩:=Pd.all h;exact⟨by rw[D.okt,h1,yaB I];rfl,h2,a⟩
mutual
theorem zmB:∀(d:D) {n:Nat},d.okt b n=true->d.fit n=true
 |.tup l,0,h=>by simp[D.okt]at h
 |.tup l,n+1,h=>by
  simp only[D.okt,yab]at h;exact zf8 l h.2
 |.lst l,0,h=>by simp[D.okt]at h
 |.lst l,n+1,h=>by
  simp only[D.okt,yab]at h;exact zf8 l h.2.2
 |.non,n,_=>by cases n<;>rfl
 |.bl _,n,_=>by cases n<;>rfl
 |.int _,n,_=>by cases n<;>rfl
 |.str _,n,h=>by cases n<;>exact h
 |.dic _,n,h=>by cases n<;>cases h
 |.ref _,n,h=>by cases n<;>cases h
 |.exc _,n,h=>by cases n<;>cases h
 |.scr _,n,h=>by cases n<;>cases h
theorem zf8:∀(l:List D) {n:Nat},D.okts b n l=true->D.fits n l=true
 |[],_,_=>rfl|d::l,n,h=>by
  simp only[D.okts,yab]at h;rw[D.fits,zmB d h.1,zf8 l h.2];rfl
end
theorem Pd.fit(h:Pd b 9 m d):d.fit 9=true:=zmB d h.1
def Pd.ne(h:Pd b 9 m d):neD d d=some (.bl false):=zrg h.2.1 h.fit
def Pd.eq(h:Pd b 9 m d):eqD d d=some (.bl true):=zrH h.2.1 h.fit
def zeM{r c:Nat}{g:Z1}(I:r<=100)(J:c<=100):Pd b (n+2) 0 (flr r c g):=by
 refine Pd.tup (m:=0) (by rw[zc5,yaf,ybo];omega) fun d hd=>?_
 obtain⟨i,_,rfl⟩:=yat.mp hd;refine Pd.tup (m:=0) (by rw[zeD,yaf,ybo];omega) fun d hd=>?_
 obtain⟨j,_,rfl⟩:=yat.mp hd
 cases g i j with
 |none=>exact⟨by cases n<;>rfl,rfl,yag _⟩
 |some x=>exact⟨by cases n<;>rfl,rfl,yag _⟩
end
def zfN{tg:Tg}{c elt:Fe}{ag:Env}{Q:D->Prop}:∀{ds:List D},(∀d∈ds,∃I b y,tg.put ag d=some I/\(∀S,c I S=.ok (.bl b) S/\elt I S=.ok y S)/\Q y)->∃L,L.length<=ds.length/\(∀y∈L,Q y)/\∀S,zbE tg c elt ag ds S=.ok L S:=by
 intro ds
 induction ds with
 |nil=>exact fun _=>⟨[],yag _,(fun _ h=>by cases h),fun _=>rfl⟩
 |cons d ds j=>
  intro h;obtain⟨L,g,f,e⟩:=j fun x l=>h x (.tail _ l)
  obtain⟨I,b,y,i,a,q⟩:=h d (.head _)
  cases b with
  |true=>exact⟨y::L,yb4 g,fun z k=>(yan.mp k).elim (fun w=>w ▸ q) (f z),fun S=>by unfold zbE;simp[i,(a S).1,(a S).2,e S]⟩
  |false=>exact⟨L,Nat.le_succ_of_le g,f,fun S=>by unfold zbE;simp[i,(a S).1,e S]⟩
theorem zlp{d:D}:∀{a b:List D},d∈zfn a b->∃x∈a,∃y∈b,d=.tup [x,y]
 |x::a,y::b,h=>by
  rw[zfn]at h
  rcases yan.mp h with rfl|h
  ·exact⟨x,.head _,y,.head _,rfl⟩
  ·obtain⟨f,i,c,g,e⟩:=zlp h;exact⟨f,.tail _ i,c,.tail _ g,e⟩
section
variable{ts:Z2}{r c:Nat}{g:Z1}
def zl4(h1:1<=r)(U:r<=100)(J:c<=100)(I:r*c<=60):∃L,L.length<=60/\(∀d∈L,Pd true 7 1 d)/\∀S,zhu [flr r c g] S=.ok (.lst L) S:=by
 obtain⟨A,G,o,h⟩:=zfN (tg:=.one 0) (c:=zeY) (elt:=eFn zfq [(zaa 1),(zaa 0)]) (ag:=[none,~~~flr r c g]) (Q:=fun y=>Pd true 7 1 y/\∃x l,y=.lst (pD x::l)) (ds:=zcs r c) (by
  intro d hd;obtain⟨i,j,hi,E,rfl⟩:=zce hd;obtain⟨L,_,ne,C,e⟩:=zjV (g:=g) (p:=((i:Int),(j:Int))) h1 J I ⟨⟨by dsimp only;omega,by dsimp only;omega⟩,by dsimp only;omega,by dsimp only;omega⟩;have e:∀S,zfq [flr r c g,plD i j] S=.ok (.lst (L.map pD)) S:=e;refine⟨_,true,.lst (L.map pD),rfl,fun S=>⟨rfl,?_⟩,Pd.lst (n:=6) (m:=0) (by rw[yaf];exact C) fun d hd=>?_,?_⟩
  ·generalize flr r c g=F,plD i j=pp at*;simp[e S]
  ·obtain⟨x,_,rfl⟩:=yat.mp hd;exact⟨rfl,rfl,yag _⟩
  ·cases L with
   |nil=>exact absurd rfl ne|cons x L=>exact⟨x,L.map pD,rfl⟩)
 obtain⟨L,M,k,f⟩:=zfN (tg:=.tup [0,1]) (c:=zaf eqD (zaf ixD (zag 0) (zad (.int 0))) (zag 1)) (elt:=zaa 0) (ag:=[none,none]) (Q:=Pd true 7 1) (ds:=zfn A (zcs r c)) (by
  intro d hd;obtain⟨x,B,y,w,rfl⟩:=zlp hd;obtain⟨px,z,l,rfl⟩:=o x B;obtain⟨i,j,hi,E,rfl⟩:=zce w;have q:eqD (pD z) (plD i j)=some (.bl (zgW (pD z) (plD i j))):=zuz rfl rfl;refine⟨_,zgW (pD z) (plD i j),_,rfl,fun S=>⟨?_,rfl⟩,px⟩;generalize pD z=K,plD i j=pp at*
  simp[q])
 have v:∀a b:List D,(zfn a b).length<=a.length:=by
  intro a
  induction a with
  |nil=>intro b;exact yag _|cons x a u=>intro b;cases b with
   |nil=>exact yaF _|cons y b=>exact yb4 (u b)
 have h2:=v A (zcs r c);rw[zdO]at G;refine⟨L,by omega,k,fun S=>?_⟩;have H:=zcr (g:=g) (S:=S) (c:=c) h1 U J;have h:=h S;have f:=f S
 have t:A.length<=100000:=by omega
 have s:L.length<=100000:=by omega
 generalize flr r c g=F,zcs r c=pls at*;simp[zhu,zaj,zjq,H,h,f,t,s]
def zr8(ts:Z2)(r c:Nat)(g:Z1)(i j k:Nat):Int:=if g i j=none\/g i j=some (k:Int)then(nW ts r c (zgJ g i j (some (k:Int))):Nat)else 0
def zhZ(ts:Z2)(r c:Nat)(g:Z1)(i j n:Nat):List D:=(List.range n).map fun k=>D.int (zr8 ts r c g i j k)
def zi7(h1:1<=r)(hi:i<r)(I:j<c):zeF [flr r c g,plD i j] S=.ok (oD (g i j)) S:=by
 have b:=zel (g:=g) (S:=S) h1 hi I;have a:=zbU (g:=g) (S:=S) hi I;generalize flr r c g=d,plD i j=pp at*;simp[zeF,zaj,zgr,b,a]
def zgU(P:FP ts r c)(J:InT ts g){i j:Nat}(hi:i<r)(I:j<c)(S:Sto):∃S',Lg S S'/\zbW [.tup (ts.map zah),flr r c g,plD i j] S=.ok (.lst (zhZ ts r c g i j ts.length)) S':=by
 have r6:=P.r6;have c6:=P.c6;have tl:=P.ht.le;have F:=zi7 (g:=g) (S:=S) P.r1 hi I
 obtain⟨A,S2,s,x5,x6,rfl,g2⟩:=zgp (tg:=.one 5) (body:=zbS) (ds:=zaw 0 (ts.length:Int)) (fun k ρ S1=>∃x5 x6,ρ=[~~~.tup (ts.map zah),~~~flr r c g,~~~plD i j,~~~oD (g i j),some (true,.lst (zhZ ts r c g i j k)),x5,x6]/\Lg S S1) (by
  rintro k d ρ S1 hd ⟨x5,x6,rfl,u⟩;obtain⟨G,rfl⟩:=zhr hd
  have E:zhZ ts r c g i j (k+1)=zhZ ts r c g i j k++[D.int (zr8 ts r c g i j k)]:=by unfold zhZ;rw[ybS,ybC];rfl
  rw[E]
  have p:(zhZ ts r c g i j k).length<=100000:=by unfold zhZ;simp;omega
  have l:∀x,some (k:Int)=some x->0<=x/\x<ts.length:=fun x l=>by cases l;omega
  have w:=zdc (ts:=ts) (g:=g) (o:=some (k:Int)) (S:=S1) l P.r1 hi I (by omega) (by omega);obtain⟨S',C,e⟩:=zf0 (g:=zgJ g i j (some (k:Int))) P (zme J l) S1;have B:oD (some (k:Int))=.int (k:Int):=rfl;rw[B]at w
  by_cases f:g i j=none\/g i j=some (k:Int)
  ·have n:zr8 ts r c g i j k=(nW ts r c (zgJ g i j (some (k:Int))):Nat):=if_pos f;rw[<-n]at e;refine⟨_,_,S',rfl,?_,~~~.int k,~~~.bl true,rfl,u.trans C⟩
   have q:zdF (oD (g i j))=true\/(zdF (oD (g i j))=false/\eqD (oD (g i j)) (.int k)=some (.bl true)):=by
    rcases f with z|z
    ·rw[z];exact .inl rfl
    ·rw[z];exact .inr ⟨rfl,by have:=zkr (a:=(k:Int)) (b:=k);rwa[yaB rfl]at this⟩
   generalize zhZ ts r c g i j k=L,zr8 ts r c g i j k=cn,flr r c (zgJ g i j (some (k:Int)))=f1,flr r c g=v,plD i j=pp,oD (g i j)=t at*
   rcases q with q|⟨m,q⟩
   ·simp[zbS,w,e,p,q]
   ·simp[zbS,w,e,p,m,q]
  ·have n:zr8 ts r c g i j k=0:=if_neg f;rw[n];refine⟨_,_,S1,rfl,?_,~~~.int k,~~~.bl false,rfl,u⟩
   have q:zdF (oD (g i j))=false/\eqD (oD (g i j)) (.int k)=some (.bl false):=by
    cases h:g i j with
    |none=>exact absurd (.inl h) f|some y=>exact⟨rfl,by have:=zkr (a:=y) (b:=k);rwa[yaH (by rintro rfl;exact f (.inr h))]at this⟩
   obtain⟨m,q⟩:=q;generalize zhZ ts r c g i j k=L,flr r c g=v,plD i j=pp,oD (g i j)=t at*
   simp[zbS,p,m,q])
  (ρ:=[~~~.tup (ts.map zah),~~~flr r c g,~~~plD i j,~~~oD (g i j),some (true,.lst []),none,none]) (S:=S) ⟨none,none,rfl,.refl⟩
 rw[zkR]at s;simp only[Int.sub_zero,yaO]at s;refine⟨S2,g2,?_⟩
 have f:-1000000<=(ts.length:Int)/\(ts.length:Int)<=1000000:=by omega
 generalize zhZ ts r c g i j ts.length=L,flr r c g=v,plD i j=pp,oD (g i j)=t at*;simp[zbW,zaj,zex,F,f,s]
def zlY(P:FP ts r c)(J:InT ts g){i j:Nat}(hi:i<r)(I:j<c):∃L,L.length<=1000/\(∀d∈L,Pd true 7 0 d)/\∀S,∃S',Lg S S'/\zcx [.tup (ts.map zah),flr r c g,plD i j] S=.ok (.lst L) S':=by
 have tl:=P.ht.le
 obtain⟨L,o,a,h⟩:=zfN (tg:=.tup [0,1]) (c:=zaf gtD (zag 1) (zad (.int 0))) (elt:=zaa 0) (ag:=[none,none]) (Q:=Pd true 7 0) (ds:=zd1 (zhZ ts r c g i j ts.length)) (by
  intro d hd;unfold zd1 at hd;obtain⟨p,f,rfl⟩:=yat.mp hd;obtain⟨k,_,e⟩:=yat.mp (List.fst_mem_of_mem_zipIdx f);refine⟨_,decide (zr8 ts r c g i j k > 0),_,rfl,fun S=>⟨?_,rfl⟩,rfl,rfl,yag _⟩;rw[<-e]
  simp)
 have n:(zd1 (zhZ ts r c g i j ts.length)).length=ts.length:=by unfold zd1 zhZ;simp
 refine⟨L,by omega,a,fun S=>?_⟩;obtain⟨S',g1,m⟩:=zgU P J hi I S;refine⟨S',g1,?_⟩;have l:=h S'
 have b:L.length<=100000:=by omega
 generalize zhZ ts r c g i j ts.length=M,flr r c g=q,plD i j=pp at*;simp[zcx,zaj,zev,m,l,b]
def ztN{S:Sto}(h1:1<=r)(I:r<=100)(J:c<=100):zcw [.lst [flr r c g,flr r c g]] S=.ok (.lst [flr r c (un g g),flr r c g]) S:=by
 have e:=zlW (g:=g) (h:=g) (S:=S) h1 (show r<=1000 by omega) (show c<=1000 by omega);generalize flr r c (un g g)=U,flr r c g=F at*;have c1:zej [F,F] (some 1) none=[F]:=zyt;have d:zej [F,F] (some 2) none=[]:=znl (n:=2)
 have b:zbV [F,.lst [F]] S=.ok U S:=by simp[zbV,zaj,zdo,zeq,ze4,e]
 have a:zbV [F,.lst []] S=.ok F S:=by simp[zbV,zaj,zdo,zeq]
 simp[zcw,zaj,zet,zd1,zbE,c1,d,b,a]
def zyp(h1:1<=r)(I:r<=100)(J:c<=100):∃a b:Int,∀S,zd4 [.lst [flr r c g,flr r c g]] S=.ok (.lst [.int a,.int b]) S:=by
 refine⟨(((zcs r c).filter (zfA g)).length:Int)-((zcs r c).filter (zfA (un g g))).length,0,fun S=>?_⟩;have e:=ztN (g:=g) (S:=S) h1 I J;have f:=zhp (g:=g) (S:=S) h1 I J;have d:=zhp (g:=un g g) (S:=S) h1 I J;generalize flr r c (un g g)=U,flr r c g=F,(zcs r c).filter (zfA g)=i,(zcs r c).filter (zfA (un g g))=h at*;simp[zd4,zaj,zhL,e,zbE,zfn,f,d]
def zvB{S:Sto}(h1:1<=r)(I:r<=100)(J:c<=100):zio [.lst [flr r c g,flr r c g]] S=.ok (flr r c (ov g g)) S:=by
 have e:=zn0 (g:=g) (h:=g) (S:=S) h1 (show r<=1000 by omega) (show c<=1000 by omega);generalize flr r c (ov g g)=U,flr r c g=F at*;have c1:zej [F,F] (some 1) none=[F]:=zyt;simp[zio,zaj,znd,c1,zeq,zkz,e]
def zrX{K:Kf}:∃L,L.length<=4/\(∀d∈L,Pd true 7 0 d)/\∀S,zb4 [flr 3 4 (someK K),.tup [.int 0,.int 0]] S=.ok (.lst L) S:=by
 obtain⟨L,b,h,j⟩:=zfN (tg:=.one 0) (c:=eFn zay [(zaa 1),(zaa 0)]) (elt:=zaa 0) (ag:=[none,~~~(flr 2 3 (someK (zt0 K)))]) (Q:=Pd true 7 0) (ds:=[pD (-1,-1),pD (-1,0),pD (0,-1),pD (0,0)]) (by
  intro d hd
  have:∃z,d=pD z:=by
   simp only[yan,yaM,ybY]at hd
   rcases hd with rfl|rfl|rfl|rfl<;>exact⟨_,rfl⟩
  obtain⟨z,rfl⟩:=this;have e:=fun S=>zm4 (g:=someK (zt0 K)) (r:=2) (c:=3) (x:=z) (S:=S) (by decide)
  refine⟨_,decide (inF 2 3 z),_,rfl,fun S=>⟨?_,rfl⟩,rfl,rfl,yag _⟩;have e:=e S;generalize flr 2 3 (someK (zt0 K))=F,pD z=k at*
  simp[e])
 refine⟨L,b,h,fun S=>?_⟩
 have a:zd5 [flr 3 4 (someK K)] S=.ok (flr 2 3 (someK (zt0 K))) S:=by kernel_rfl
 have f:=j S
 have i:L.length<=100000:=by have:L.length<=4:=b;omega
 dsimp only[pD]at f;generalize flr 2 3 (someK (zt0 K))=F at*;have a:zd5 [flr 3 4 (someK K)] S=.ok F S:=a;generalize flr 3 4 (someK K)=F0 at*;simp[zb4,zaj,zcX,a,f,i]
end
end S2
namespace S2.L95
open PySem
open L2 hiding D
section
variable{ts:Z2}{r c:Nat}{g:Z1}{K:Kf}
def zrM:Pd true 8 1000 (.tup (tsC.map zah)):=⟨by decide +kernel,by decide +kernel,by decide +kernel⟩
def zrP{d:D}{n:Nat}(I:n=7\/n=8)(hd:d∈clL ts r c g):Pd true n 0 d:=by
 obtain⟨p,a,hd⟩:=yb5.mp hd;obtain⟨i,j,_,_,rfl⟩:=zce a;unfold clG plD at hd
 have s1:PyData.strOk "east"=true:=by decide +kernel
 have s2:PyData.strOk "south"=true:=by decide +kernel
 rcases ybj.mp hd with h|h
 ·split at h
  ·rw[yaI.mp h];exact⟨by rcases I with rfl|rfl<;>simp[clD,D.okt,D.okts,s1],rfl,yag _⟩
  ·cases h
 ·split at h
  ·rw[yaI.mp h];exact⟨by rcases I with rfl|rfl<;>simp[clD,D.okt,D.okts,s2],rfl,yag _⟩
  ·cases h
def zl2(P:FP ts r c)(I:InT ts g):∃v,Pd true 9 20000 v/\∀S,∃S',Lg S S'/\zav [.tup (ts.map zah),flr r c g,flr 3 4 (someK K)] S=.ok v S':=by
 have r6:=P.r6;have c6:=P.c6;have rc:=P.rc;have tl:=P.ht.le;have r1:=P.r1;have c1:=P.c1;obtain⟨A,M,s,ea⟩:=zl4 (g:=g) (r:=r) (c:=c) r1 (by omega) (by omega) (by omega);obtain⟨y,J,q,em⟩:=zlY (g:=g) (i:=0) (j:=0) P I r1 c1;obtain⟨f,_,_,G,ex⟩:=zjV (g:=g) (r:=r) (c:=c) (p:=(0,0)) r1 (by omega) (by omega) ⟨⟨by decide,by dsimp only;omega⟩,by decide,by dsimp only;omega⟩;obtain⟨a,b,eh⟩:=zyp (g:=g) (r:=r) (c:=c) r1 (by omega) (by omega);obtain⟨lo,H,o,Z⟩:=zrX (K:=K)
 have pls:∀d∈zcs r c,Pd true 7 0 d:=fun d hd=>by
  obtain⟨i,j,_,_,rfl⟩:=zce hd;exact⟨rfl,rfl,yag _⟩
 have z:(zcs r c).length<=100:=by rw[zdO];omega
 have N:=ybi (zfA g) (zcs r c);refine⟨.lst ([.lst ((zcs r c).filter (zfA g)),.lst (zcs r c),.lst (clL ts r c g),.lst A]++[.lst (zhZ ts r c g 0 0 ts.length),.lst y,.lst (zdk ts r c g)]++[.lst (f.map pD),.lst [.int a,.int b],.lst [flr r c (un g g),flr r c g]]++[.lst lo,.tup (tsC.map zah),.tup [.int 0,.int 0,.int 1,.int 1]]),?_,fun S=>?_⟩
 ·refine Pd.le (Pd.lst (n:=8) (m:=1000) (by simp) ?_) (by simp);have one:∀{l:List D},l.length<=100000->(∀d∈l,Pd true 7 0 d)->Pd true 8 1000 (.lst l):=fun L h=>(Pd.lst L h).le (by rw[Nat.mul_zero];decide)
  have E:=zjw (ts:=ts) (g:=g) (r:=r) (c:=c) (by omega) (by omega);have B:(zdk ts r c g).length<=(zcs r c).length*1:=zhK fun _ _=>zkm
  intro d hd;simp only[List.cons_append,ybQ,yan,yaM,ybY]at hd
  rcases hd with rfl|rfl|rfl|rfl|rfl|rfl|rfl|rfl|rfl|rfl|rfl|rfl|rfl
  ·exact one (by omega) fun d hd=>pls d (yca.mp hd).1
  ·exact one (by omega) pls
  ·exact one (by omega) fun d hd=>zrP (.inl rfl) hd
  ·exact(Pd.lst (by omega) s).le (by omega)
  ·refine one (by unfold zhZ;simp;omega) fun d hd=>?_
   obtain⟨k,_,rfl⟩:=yat.mp hd;exact⟨rfl,rfl,yag _⟩
  ·exact one (by omega) q
  ·refine one (by omega) fun d hd=>?_
   obtain⟨i,j,_,_,rfl⟩:=zkY hd;exact⟨rfl,rfl,yag _⟩
  ·refine one (by rw[yaf];exact G) fun d hd=>?_
   obtain⟨x,_,rfl⟩:=yat.mp hd;exact⟨rfl,rfl,yag _⟩
  ·exact⟨rfl,rfl,ybL rfl⟩
  ·refine one (ybL rfl) fun d hd=>?_
   simp only[yan,yaM,ybY]at hd
   rcases hd with rfl|rfl<;>exact zeM (n:=5) (by omega) (by omega)
  ·exact one (by omega) o
  ·exact zrM
  ·exact⟨rfl,rfl,ybL rfl⟩
 ·obtain⟨S1,g1,w⟩:=zgU (i:=0) (j:=0) P I r1 c1 S;obtain⟨S2,g2,u⟩:=em S1;obtain⟨e,g3,e3⟩:=zkQ P I S2;refine⟨e,(g1.trans g2).trans g3,?_⟩;have f1:=zhp (g:=g) (S:=S) (c:=c) r1 (by omega) (by omega);have f2:=zcr (g:=g) (S:=S) (c:=c) r1 (by omega) (by omega);have Y:=zf1 (g:=g) (S:=S) (c:=c) P.ht I r1 (by omega) (by omega);have X:=ea S;have W:zfq [flr r c g,.tup [.int 0,.int 0]] e=.ok (.lst (f.map pD)) e:=ex e;have V:=eh e;have R:=ztN (g:=g) (S:=e) (c:=c) r1 (by omega) (by omega);have Q:=Z e;have O:=zgI (S:=e)
  have t:zcJ [.int 3] e=.ok (.tup [.int 0,.int 0,.int 1,.int 1]) e:=by kernel_rfl
  have w:zbW [.tup (ts.map zah),flr r c g,.tup [.int 0,.int 0]] S=.ok (.lst (zhZ ts r c g 0 0 ts.length)) S1:=w;have u:zcx [.tup (ts.map zah),flr r c g,.tup [.int 0,.int 0]] S1=.ok (.lst y) S2:=u;generalize flr r c (un g g)=U,flr r c g=F,flr 3 4 (someK K)=C,ts.map zah=T,(zcs r c).filter (zfA g)=l1,zcs r c=l2,clL ts r c g=E,zhZ ts r c g 0 0 ts.length=l5,zdk ts r c g=B,f.map pD=l7,tsC.map zah=l8 at*;simp[zav,zaj,zdZ,f1,f2,Y,X,w,u,e3,W,V,R,Q,O,t]
end
def zi8{S:Sto}{n:Nat}{ts:Z2}{r c:Nat}{g:Z1}(h1:1<=r)(I:r<=90)(h:S[n]?=some (pnt (.tup (ts.map zah)) (flr r c g) [] [])):zaV [.ref n,.tup [.int 99,.int 0]] S=.ok (.bl true) S:=by
 have j:zaq [flr r c g,.tup [.int 99,.int 0]] S=.exc "NoPlace" S:=zkU (x:=(99,0)) h1 fun z=>by have:=z.1.2;dsimp only at this;omega
 have e:zaF [.tup (ts.map zah),flr r c g,.tup [.int 99,.int 0],.int 0] S=.exc "NoPlace" S:=by
  generalize flr r c g=F at*;simp[zaF,zaj,zdm,j]
 have i:=zqX h e;have f:=zom h;have k1:=zdf (m:="put") h (by decide +kernel);have k2:=zdf (m:="undo") h (by decide +kernel)
 have b:zsf zvm "NoPlace" "FloorError"=true:=by decide
 have a:zsf zvm "Nothing" "FloorError"=true:=by decide
 have x1:isL "NoPlace" "NoPlace"=some true:=by decide
 have x2:isL "Nothing" "Nothing"=some true:=by decide
 have d:zaw 0 2=[.int 0,.int 1]:=rfl;simp[d,zaV,zaj,zbY,zeq,zcG,zlV,zmL,i,f,k1,k2,b,a,x1,x2]
section
variable{ts:Z2}{r c:Nat}{g:Z1}{S:Sto}{n n1 n2:Nat}{l:List Int}{v T C F N:D}{L L2:List D}{x0 x1 x2 x3 x4 x5 x6 x7 x8 x9 x10 x11 x12:Option (Bool×D)}
def mth{bf af:List D}(h:S[n]?=some (pnt T N bf af)):zbT "Painter" "floor" (.ref n) S=true/\zbT "Painter" "clashes" (.ref n) S=true/\zbT "Painter" "steps" (.ref n) S=true/\zbT "Painter" "put" (.ref n) S=true/\zbT "Painter" "undo" (.ref n) S=true:=⟨zdf h (by decide +kernel),zdf h (by decide +kernel),zdf h (by decide +kernel),zdf h (by decide +kernel),zdf h (by decide +kernel)⟩
def zpj{bf af:List D}(h1:S[n1]?=some (pnt T F bf af))(h2:S[n2]?=some (pnt T F [] []))(J:Pd false 9 0 F)(I:Pd true 9 20000 v)(e:∀S,∃S',Lg S S'/\zav [T,F,C] S=.ok v S'):
  ∃S',zhe [x0,~~~T,~~~C,x3,x4,~~~F,x6,~~~v,x8,x9,~~~.ref n1,~~~.ref n2,x12] S=.rt (.bl true) S':=by
 obtain⟨S',_,e⟩:=e S;refine⟨S',?_⟩;simp[zhe,(mth h1).1,(mth h2).1,zd6 h1,zd6 h2,J.eq,I.eq,e]
def zsj{bf:List D}(h1:S[n1]?=some (pnt T N bf []))(h2:S[n2]?=some (pnt T F [] []))(U:n1≠n2)(hN:N.fit 9=true)(I:Pd false 9 0 F)(hb:(N=F)\/(zgW N F=false/\bf=[F]))(J:Pd true 9 20000 v)(e:∀S,∃S',Lg S S'/\zav [T,F,C] S=.ok v S'):
  ∃S',zfD [x0,~~~T,~~~C,x3,x4,~~~F,x6,~~~v,x8,x9,~~~.ref n1,~~~.ref n2,x12] S=.rt (.bl true) S':=by
 rcases hb with rfl|⟨a,rfl⟩
 ·obtain⟨S',q⟩:=zpj (x0:=x0) (x3:=x3) (x4:=x4) (x6:=x6) (x8:=x8) (x9:=x9) (x12:=x12) h1 h2 I J e;refine⟨S',?_⟩;simp only[zfD];simp[(mth h1).1,zd6 h1,I.ne,q]
 ·have k:neD N F=some (.bl true):=by unfold neD;rw[hN,I.fit,a];rfl
  obtain⟨S1,b,s1⟩:=zqW h1;obtain⟨S',q⟩:=zpj (x0:=x0) (x3:=x3) (x4:=x4) (x6:=x6) (x8:=x8) (x9:=x9) (x12:=x12) s1.1 ((s1.2 n2 (Ne.symm U)).trans h2) I J e;refine⟨S',?_⟩;simp only[zfD];simp[(mth h1).1,(mth h1).2.2.2.2,zd6 h1,k,b,q]
def zpk{bf:List D}(h1:S[n1]?=some (pnt T N bf []))(h2:S[n2]?=some (pnt T F [] []))(hn:n1≠n2)(hN:N.fit 9=true)(hF:Pd false 9 0 F)(hb:(N=F)\/(zgW N F=false/\bf=[F]))(U:Pd true 9 20000 v)(e:∀S,∃S',Lg S S'/\zav [T,F,C] S=.ok v S')
  (e1:zbM [T,N] S=.ok (.lst L2) S) (p1:Pd true 9 1 (.lst L2)) (I:L2.length<=20000) (e2:zbM [T,F] S=.ok (.lst L) S) (p2:Pd true 9 4 (.lst [F,.lst L,.tup [.int 0,.int 0]])) (J:zaV [.ref n2,.tup [.int 99,.int 0]] S=.ok (.bl true) S):
  ∃S',zfE [x0,~~~T,~~~C,x3,x4,~~~F,x6,~~~v,x8,x9,~~~.ref n1,~~~.ref n2,~~~(.lst [F,.lst L,.tup [.int 0,.int 0]])] S=.rt (.bl true) S':=by
 obtain⟨S',q⟩:=zsj (x0:=x0) (x3:=x3) (x4:=x4) (x6:=x6) (x8:=x8) (x9:=x9) (x12:= ~~~(.lst [F,.lst L,.tup [.int 0,.int 0]])) h1 h2 hn hN hF hb U e;refine⟨S',?_⟩;have c1:=zfc h1 e1;have d:=zfc h2 e2;have f2:=zd6 h2;have s2:zaD [.ref n2] S=.ok (.tup [.int 0,.int 0]) S:=zj2 h2;obtain⟨_,c,_,_,_⟩:=mth h1;obtain⟨k1,k2,k3,_,_⟩:=mth h2;have b:=p1.ne;have a:=p2.ne
 have I:L2.length<=100000:=by omega
 simp only[zfE,zjI,zjH];simp[zie,c,c1,k1,k2,k3,d,f2,s2,b,a,J,q,I]
end
section
variable{ts:Z2}{r c:Nat}{g:Z1}{S:Sto}{n1 n2:Nat}{l:List Int}{v C:D}{x3 x4 x6 x8 x9 x12:Option (Bool×D)}
def zpY(P:FP ts r c)(I:InT ts g):(∀S,zbM [.tup (ts.map zah),flr r c g] S=.ok (.lst (clL ts r c g)) S)/\Pd true 9 1 (.lst (clL ts r c g))/\Pd true 8 1 (.lst (clL ts r c g))/\(clL ts r c g).length<=20000:=by
 have r6:=P.r6;have c6:=P.c6;have a:=zjw (ts:=ts) (g:=g) (r:=r) (c:=c) (by omega) (by omega);exact⟨fun S=>zf1 P.ht I P.r1 (by omega) (by omega),Pd.lst (m:=0) (by omega) fun d hd=>zrP (.inr rfl) hd,Pd.lst (m:=0) (by omega) fun d hd=>zrP (.inl rfl) hd,a⟩
def zsk(P:FP ts r c)(U:InT ts g)(h1:S[n1]?=some (pnt (.tup (ts.map zah)) (flr r c g) [] []))(h2:S[n2]?=some (pnt (.tup (ts.map zah)) (flr r c g) [] []))(I:n1≠n2)(J:Pd true 9 20000 v)(e:∀S,∃S',Lg S S'/\zav [.tup (ts.map zah),flr r c g,C] S=.ok v S'):
  ∃S',zhf [~~~.scr l,~~~.tup (ts.map zah),~~~C,x3,x4,~~~flr r c g,x6,~~~v,x8,x9,~~~.ref n1,~~~.ref n2,x12] S=.rt (.bl true) S':=by
 have r6:=P.r6;have c6:=P.c6;have t1:=P.h1;have r1:=P.r1;have c1:=P.c1;have s:=zcj (l:=l) (k:=400) (many:=((ts.map zah).length:Nat)) (S:=S) (by decide) (by rw[yaf];omega);have nn:=zcV l 400 (many:=((ts.map zah).length:Nat)) (by rw[yaf];omega);generalize zbt l 400 ((ts.map zah).length:Nat)=x at*
 have h:∀y,some x=some y->0<=y/\y<ts.length:=fun y u=>by cases u;rwa[yaf]at nn
 have E:zaF [.tup (ts.map zah),flr r c g,.tup [.int 0,.int 0],.int x] S=.ok (flr r c (zgJ g 0 0 (some x))) S:=zdc (i:=0) (j:=0) h r1 r1 c1 (by omega) (by omega);have w:=zme (i:=0) (j:=0) U h;have b:Pd false 9 0 (flr r c g):=zeM (n:=7) (by omega) (by omega);have p:Pd false 9 0 (flr r c (zgJ g 0 0 (some x))):=zeM (n:=7) (by omega) (by omega);obtain⟨S1,ep,s1⟩:=ztv h1 b.fit E p.fit;obtain⟨f1,f2,D,B⟩:=zpY P U;have a:=(s1.2 n2 (Ne.symm I)).trans h2
 have p2:Pd true 9 4 (.lst [flr r c g,.lst (clL ts r c g),.tup [.int 0,.int 0]]):=Pd.lst (n:=8) (m:=1) (ybL rfl) fun d hd=>by
  simp only[yan,yaM,ybY]at hd
  rcases hd with rfl|rfl|rfl
  ·exact(zeM (n:=6) (by omega) (by omega)).le (by decide)
  ·exact D
  ·exact⟨rfl,rfl,yaF _⟩
 have f:=zi8 (ts:=ts) (g:=g) r1 (by omega) a
 have fin:∃S',zfE [~~~.scr l,~~~.tup (ts.map zah),~~~C,x3,x4,~~~flr r c g,x6,~~~v,x8,x9,~~~.ref n1,~~~.ref n2,~~~(.lst [flr r c g,.lst (clL ts r c g),.tup [.int 0,.int 0]])] S1=.rt (.bl true) S':=by
  have o:=s1.1;unfold chP at o;split at o
  ·exact zpk o a I b.fit b (.inl rfl) J e (f1 _) f2 B (f1 _) p2 f
  ·rename_i z;obtain⟨g1,g2,g3,A⟩:=zpY P w;exact zpk o a I p.fit b (.inr ⟨by simpa using z,rfl⟩) J e (g1 _) g2 A (f1 _) p2 f
 obtain⟨S',q⟩:=fin;refine⟨S',?_⟩;obtain⟨k1,k2,k3,_,_⟩:=mth h2;obtain⟨_,_,_,t,_⟩:=mth h1;have d1:=zd6 h2;have d2:=zfc h2 (f1 S);have d3:zaD [.ref n2] S=.ok (.tup [.int 0,.int 0]) S:=zj2 h2;have G:zr4 [.lst [flr r c g,.lst (clL ts r c g),.tup [.int 0,.int 0]]] S=.ok (.lst [flr r c g,.lst (clL ts r c g),.tup [.int 0,.int 0]]) S:=if_pos p2.1;generalize clL ts r c g=L,flr r c g=F,ts.map zah=T at*;simp only[zhf,zjJ];simp[k1,k2,k3,d1,d2,d3,G,t,s,ep,q]
def zvp(P:FP ts r c)(J:InT ts g)(I:Pd true 9 20000 v)(e:∀S,∃S',Lg S S'/\zav [.tup (ts.map zah),flr r c g,C] S=.ok v S'):
  ∃S',zhd [~~~.scr l,~~~.tup (ts.map zah),~~~C,x3,x4,~~~flr r c g,none,~~~v,none,none,none,none,none] []=.rt (.bl true) S':=by
 have r6:=P.r6;have c6:=P.c6;have z:Pd false 9 0 (flr r c g):=zeM (n:=7) (by omega) (by omega);obtain⟨S1,_,y⟩:=e [];obtain⟨a,b,f⟩:=zyp (g:=g) (r:=r) (c:=c) P.r1 (by omega) (by omega);have es:=zvB (g:=g) (S:=S1) (r:=r) (c:=c) P.r1 (by omega) (by omega);have f:=f S1;have t:Pd false 9 0 (flr r c (ov g g)):=zeM (n:=7) (by omega) (by omega)
 have u:Pd true 9 1 (.lst [flr r c g,flr r c g]):=Pd.lst (n:=8) (m:=0) (ybL rfl) fun d hd=>by
  simp only[yan,yaM,ybY]at hd
  rcases hd with rfl|rfl<;>exact zeM (n:=6) (by omega) (by omega)
 have w:Pd true 9 1 (.lst [.int a,.int b]):=⟨rfl,rfl,yag _⟩;obtain⟨S2,p1,h,_⟩:=zpx (S:=S1) (T:=.tup (ts.map zah)) (x:=flr r c g);obtain⟨A,p2,s,k2⟩:=zpx (S:=S2) (T:=.tup (ts.map zah)) (x:=flr r c g);have i:S1.length<S2.length:=(yal.mp h).1;obtain⟨S',q⟩:=zsk (l:=l) (x3:=x3) (x4:=x4) (x6:=none) (x8:= ~~~.lst [flr r c g,flr r c g]) (x9:=some (true,.lst [flr r c g,flr r c g])) (x12:=none) P J ((k2 _ i).trans h) s (yaz i) I e;refine⟨S',?_⟩;have p:=I.ne;have o:=t.ne;have k:=w.ne;have j:=u.ne;generalize flr r c (ov g g)=U,flr r c g=F,ts.map zah=T at*;simp only[zhd,zlD,zlC,zlB,zlA];simp[y,p,es,o,f,k,j,p1,p2,q]
theorem zoJ:∀l:List Int,l.length<=63->∃S,ztd [.scr l] []=.ok (.bl true) S:=by
 intro l _;obtain⟨ts,b,w⟩:=zlX (l:=l) (at':=0) (most:=4) (S:=[]) (by decide) (by decide) (by decide);obtain⟨r,c,h1,B,c1,E,a,es⟩:=zl0 (l:=l) (at':=90) (S:=[]) (by decide);have n1:=b.ne;have A:=b.le;have ht:TOk ts:=⟨b.four,by omega⟩
 have hp2:0<((ts.map zah).length:Int)*5:=by simp;omega
 have f2:=zl3 (l:=l) (at':=100) (m:=5) (ts:=ts.map zah) (r:=r) (c:=c) (S:=[]) (by decide) hp2 (by decide) (by omega) (by omega) (by omega) (by omega)
 have g2:InT ts (zln l 100 (ts.map zah).length 5):=fun i j x e=>by simpa using ztZ hp2 x e
 rw[yaO,yaO]at f2;generalize zln l 100 (ts.map zah).length 5=k at*;have P:FP ts r c:=⟨ht,by omega,zvL (by omega) a,h1,c1,a⟩;have y:zbv [.scr l,.int 300,.int 2,.int 3] []=.ok (flr 3 4 (someK fun i j=>zbt l (300+8*i+j) 2)) []:=zfY (r:=2) (c:=3) (by decide) (by decide) (by decide);generalize (fun(i j:Nat)=>zbt l (300+8*i+j) 2)=K at*;obtain⟨v,f,e⟩:=zl2 (K:=K) P g2;obtain⟨S',q⟩:=zvp (l:=l) (x3:= ~~~.int r) (x4:= ~~~.int c) P g2 f e;obtain⟨S1,_,z⟩:=e []
 have o:Pd false 9 0 (.tup (ts.map zah)):=Pd.tup (n:=8) (m:=0) (by simp;omega) fun d hd=>by
  obtain⟨t,g,rfl⟩:=yat.mp hd;refine Pd.tup (n:=7) (m:=0) (by rw[yaf,b.four t g];decide) fun d hd=>?_
  obtain⟨x,_,rfl⟩:=yat.mp hd;exact⟨rfl,rfl,yag _⟩
 have p:Pd false 9 0 (flr r c k):=zeM (n:=7) (by omega) (by omega);have s:Pd false 9 0 (flr 3 4 (someK K)):=zeM (n:=7) (by decide) (by decide);have k1:=o.1;have k2:=p.1;have k3:=s.1;have u:=f.1;have k5:v.cst<=1000000:=yak f.2.2 (by decide);refine⟨S',?_⟩;generalize D.tup (ts.map zah)=T,flr r c k=F,flr 3 4 (someK K)=C at*
 have h:zhl 6 7 zav 1 5 2 [~~~.scr l,~~~T,~~~C,~~~.int r,~~~.int c,~~~F,none,none,none,none,none,none,none] []=.nx [~~~.scr l,~~~T,~~~C,~~~.int r,~~~.int c,~~~F,none,~~~v,none,none,none,none,none] []:=by
  simp[zhl,zi3,zjZ,Out.val,z,k1,k2,k3,u,k5]
 simp only[ztd,zaj,zux,zrG,zlE];simp[w,y,es,f2,h,q]
end
end S2.L95
namespace M95
open PySem L2 S2 S2.L95
noncomputable def top(i:Nat):Stmt:=PySem.Challenge.pw_floorfits_k95_whole_again.main.body.getD i (.Pass ⟨0,0,0,0⟩)
noncomputable def T:Tab:=⟨[("NORTH",.int 0),("EAST",.int 1),("SOUTH",.int 2),("WEST",.int 3),("CHOICES",.int 16),("NORTHWEST",.int 0),("NORTHEAST",.int 1),("SOUTHEAST",.int 2),("SOUTHWEST",.int 3)],["isinstance","int","bool","tuple","list","len","range","all","sum","enumerate","zip","sorted","dict","ValueError"],["FloorError","NoPlace","NoTile","NoFill","Unlike","Nothing"],[("Unlike","FloorError"),("NoPlace","FloorError"),("NoTile","FloorError"),("NoFill","FloorError"),("Nothing","FloorError")],["Unlike","NoPlace","NoTile","NoFill","Nothing"],[("Ways","tiles"),("Ways","ground"),("Ways","size"),("Ways","is_round"),("Ways","known"),("Painter","tiles"),("Painter","now"),("Painter","before"),("Painter","after")],["known"],["found"]⟩
noncomputable def F0:Fn3:=⟨"",[],[],[]⟩
noncomputable def F1:Fn3:=F0.fn "is_whole" ⟨1,false,zaT⟩
def d1:za1 (Gn T F0) false ["thing"] 1 (top 13)=some zed:=by kernel_rfl
noncomputable def F2:Fn3:=F1.fn "is_tuple_of" ⟨3,false,zaB⟩
def d2:za1 (Gn T F1) false ["thing","least","most"] 3 (top 14)=some zcn:=by kernel_rfl
noncomputable def F3:Fn3:=F2.fn "has_number" ⟨2,false,zbj⟩
def d3:za1 (Gn T F2) false ["tiles","thing"] 2 (top 15)=some zcO:=by kernel_rfl
noncomputable def F4:Fn3:=F3.fn "may_lie" ⟨2,false,zdI⟩
def d4:za1 (Gn T F3) false ["tiles","thing"] 2 (top 16)=some zeV:=by kernel_rfl
noncomputable def F5:Fn3:=F4.fn "size_of" ⟨1,false,zb9⟩
def d5:za1 (Gn T F4) false ["floor","columns"] 1 (top 17)=some zgs:=by kernel_rfl
noncomputable def F6:Fn3:=F5.fn "places_of" ⟨1,true,zaG⟩
def d6:za1 (Gn T F5) true ["floor","size","places","row","column"] 1 (top 18)=some zes:=by kernel_rfl
noncomputable def F7:Fn3:=F6.fn "is_row_like" ⟨2,false,zbK⟩
def d7:za1 (Gn T F6) false ["row","thing"] 2 (top 19)=some zdq:=by kernel_rfl
noncomputable def F8:Fn3:=F7.fn "is_like" ⟨2,false,zdJ⟩
def d8:za1 (Gn T F7) false ["floor","thing"] 2 (top 20)=some zeW:=by kernel_rfl
noncomputable def F9:Fn3:=F8.fn "refuse_unlike" ⟨2,false,zaS⟩
def d9:za1 (Gn T F8) false ["floor","other"] 2 (top 21)=some zbN:=by kernel_rfl
noncomputable def F10:Fn3:=F9.fn "in_rows" ⟨2,false,zeH⟩
def d10:za1 (Gn T F9) false ["numbers","size"] 2 (top 22)=some zgt:=by kernel_rfl
noncomputable def F11:Fn3:=F10.fn "number_at" ⟨2,false,zao⟩
def d11:za1 (Gn T F10) false ["floor","place"] 2 (top 23)=some zeu:=by kernel_rfl
noncomputable def F12:Fn3:=F11.fn "laid_places" ⟨1,true,zbn⟩
def d12:za1 (Gn T F11) true ["floor"] 1 (top 24)=some zdp:=by kernel_rfl
noncomputable def F13:Fn3:=F12.fn "has_place" ⟨2,false,zay⟩
def d13:za1 (Gn T F12) false ["floor","place","size"] 2 (top 25)=some zew:=by kernel_rfl
noncomputable def F14:Fn3:=F13.fn "refuse_outside" ⟨2,false,zaq⟩
def d14:za1 (Gn T F13) false ["floor","place"] 2 (top 26)=some zbB:=by kernel_rfl
noncomputable def F15:Fn3:=F14.fn "tile_at" ⟨2,false,zeF⟩
def d15:za1 (Gn T F14) false ["floor","place"] 2 (top 27)=some zgr:=by kernel_rfl
noncomputable def F16:Fn3:=F15.fn "with_number" ⟨3,false,zcl⟩
def d16:za1 (Gn T F15) false ["floor","place","number","old","row"] 3 (top 28)=some zdn:=by kernel_rfl
noncomputable def F17:Fn3:=F16.fn "with_tile" ⟨4,false,zaF⟩
def d17:za1 (Gn T F16) false ["tiles","floor","place","number"] 4 (top 29)=some zdm:=by kernel_rfl
noncomputable def F18:Fn3:=F17.fn "edge_at" ⟨4,false,zaU⟩
def d18:za1 (Gn T F17) false ["tiles","floor","place","side"] 4 (top 30)=some zdV:=by kernel_rfl
noncomputable def F19:Fn3:=F18.fn "colours_east" ⟨3,false,zb5⟩
def d19:za1 (Gn T F18) false ["tiles","floor","place","beside"] 3 (top 31)=some zcY:=by kernel_rfl
noncomputable def F20:Fn3:=F19.fn "colours_south" ⟨3,false,zbL⟩
def d20:za1 (Gn T F19) false ["tiles","floor","place","below"] 3 (top 32)=some zcz:=by kernel_rfl
noncomputable def F21:Fn3:=F20.fn "do_clash" ⟨1,false,zc8⟩
def d21:za1 (Gn T F20) false ["colours"] 1 (top 33)=some zfj:=by kernel_rfl
noncomputable def F22:Fn3:=F21.fn "clashes_floors" ⟨2,true,zbM⟩
def d22:za1 (Gn T F21) true ["tiles","floor","found","place"] 2 (top 34)=some zgu:=by kernel_rfl
noncomputable def F23:Fn3:=F22.fn "corner_tile" ⟨4,false,zeJ⟩
def d23:za1 (Gn T F22) false ["northwest","northeast","southeast","southwest"] 4 (top 42)=some zeX:=by kernel_rfl
noncomputable def F24:Fn3:=F23.fn "corner_number" ⟨4,false,zdL⟩
def d24:za1 (Gn T F23) false ["northwest","northeast","southeast","southwest"] 4 (top 43)=some zdW:=by kernel_rfl
noncomputable def F25:Fn3:=F24.fn "corners_at" ⟨1,false,zcJ⟩
def d25:za1 (Gn T F24) false ["number"] 1 (top 44)=some zfw:=by kernel_rfl
noncomputable def F26:Fn3:=F25.fn "tile_by" ⟨1,false,zin⟩
def d26:za1 (Gn T F25) false ["number","around"] 1 (top 45)=some ziI:=by kernel_rfl
noncomputable def F27:Fn3:=F26.fn "corner_set" ⟨0,false,zdK⟩
def d27:za1 (Gn T F26) false [] 0 (top 46)=some zfx:=by kernel_rfl
noncomputable def F28:Fn3:=F27.fn "number_between" ⟨3,false,zdC⟩
def d28:za1 (Gn T F27) false ["upper","lower","column"] 3 (top 47)=some zdD:=by kernel_rfl
noncomputable def F29:Fn3:=F28.fn "row_between" ⟨2,false,zeG⟩
def d29:za1 (Gn T F28) false ["upper","lower"] 2 (top 48)=some zeU:=by kernel_rfl
noncomputable def F30:Fn3:=F29.fn "floor_of" ⟨1,false,zd5⟩
def d30:za1 (Gn T F29) false ["corners"] 1 (top 49)=some zg6:=by kernel_rfl
noncomputable def F31:Fn3:=F30.fn "tiles_around" ⟨2,true,zb4⟩
def d31:za1 (Gn T F30) true ["corners","place","floor","row","column","around"] 2 (top 50)=some zcX:=by kernel_rfl
noncomputable def F32:Fn3:=F31.fn "suits" ⟨2,false,zf4⟩
def d32:za1 (Gn T F31) false ["wanted","colour"] 2 (top 52)=some zjp:=by kernel_rfl
noncomputable def F33:Fn3:=F32.cls "Ways" [.bl false] ⟨4,false,zaZ⟩
def d33:ze2 (Gn T (F32.at "Ways")) false ["self","tiles","floor","is_round"] (inC 0 (top 53))=some zcD:=by kernel_rfl
theorem s33:FnScope ["self","tiles","floor","is_round"] ["self","tiles","floor","is_round"] (zae (inC 0 (top 53))):=⟨rfl,rfl,rfl,by decide +kernel,rfl,by decide +kernel,by decide +kernel⟩
noncomputable def F34:Fn3:=F33.mt "first_seam" "Ways" ⟨1,false,zaX⟩
def d34:za1 (Gn T (F33.at "Ways")) false ["self"] 1 (inC 1 (top 53))=some zb0:=by kernel_rfl
noncomputable def F35:Fn3:=F34.mt "ends_row" "Ways" ⟨2,false,zaY⟩
def d35:za1 (Gn T (F34.at "Ways")) false ["self","step"] 2 (inC 2 (top 53))=some zcC:=by kernel_rfl
noncomputable def F36:Fn3:=F35.mt "colour_round" "Ways" ⟨4,false,zat⟩
def d36:za1 (Gn T (F35.at "Ways")) false ["self","step","seam","tile"] 4 (inC 3 (top 53))=some za5:=by kernel_rfl
noncomputable def F37:Fn3:=F36.mt "seam_behind" "Ways" ⟨4,false,zbf⟩
def d37:za1 (Gn T (F36.at "Ways")) false ["self","step","seam","tile","is_last","in_last_row","east","south","around"] 4 (inC 4 (top 53))=some zbO:=by kernel_rfl
noncomputable def F38:Fn3:=F37.mt "numbers_for" "Ways" ⟨2,false,zaK⟩
def d38:za1 (Gn T (F37.at "Ways")) false ["self","step","laid"] 2 (inC 5 (top 53))=some zbg:=by kernel_rfl
noncomputable def F39:Fn3:=F38.mt "fits_round" "Ways" ⟨4,false,zaW⟩
def d39:za1 (Gn T (F38.at "Ways")) false ["self","step","seam","tile"] 4 (inC 6 (top 53))=some zbp:=by kernel_rfl
noncomputable def F40:Fn3:=F39.mt "fits" "Ways" ⟨4,false,zdd⟩
def d40:za1 (Gn T (F39.at "Ways")) false ["self","step","seam","tile"] 4 (inC 7 (top 53))=some zez:=by kernel_rfl
noncomputable def F41:Fn3:=F40.mt "choices" "Ways" ⟨3,true,zbw⟩
def d41:za1 (Gn T (F40.at "Ways")) true ["self","step","seam","found","number","tile"] 3 (inC 8 (top 53))=some zc1:=by kernel_rfl
noncomputable def F42:Fn3:=F41.mt "count_from" "Ways" ⟨3,false,zaA⟩
def d42:∀r,ze2 (Gn T ((F41.mt "count_from" "Ways" ⟨["self","step","seam"].length,false,r⟩).at "Ways")) false ["self","step","seam","key"] (inC 9 (top 53))=some (zak r):=by intro r;kernel_rfl
theorem s42:FnScope ["self","step","seam","key"] ["self","step","seam"] (zae (inC 9 (top 53))):=⟨rfl,rfl,rfl,by decide +kernel,rfl,by decide +kernel,by decide +kernel⟩
noncomputable def F43:Fn3:=F42.mt "count_all" "Ways" ⟨1,false,za9⟩
def d43:za1 (Gn T (F42.at "Ways")) false ["self"] 1 (inC 10 (top 53))=some zcf:=by kernel_rfl
noncomputable def F44:Fn3:=F43.mt "numbers_by" "Ways" ⟨2,true,zbo⟩
def d44:za1 (Gn T (F43.at "Ways")) true ["self","number","numbers","left","seam","step","choice","many"] 2 (inC 11 (top 53))=some zbZ:=by kernel_rfl
noncomputable def F45:Fn3:=F44.mt "whole_by" "Ways" ⟨2,false,zbk⟩
def d45:za1 (Gn T (F44.at "Ways")) false ["self","number"] 2 (inC 12 (top 53))=some zcB:=by kernel_rfl
noncomputable def F46:Fn3:=F45.fn "count_fills" ⟨2,false,za2⟩
def d46:za1 (Gn T F45) false ["tiles","floor"] 2 (top 54)=some zdr:=by kernel_rfl
noncomputable def F47:Fn3:=F46.fn "fill" ⟨3,false,zjY⟩
def d47:za1 (Gn T F46) false ["tiles","floor","number"] 3 (top 55)=some znf:=by kernel_rfl
noncomputable def F48:Fn3:=F47.fn "counts_at" ⟨3,true,zbW⟩
def d48:za1 (Gn T F47) true ["tiles","floor","place","laid","counts","number","is_kept"] 3 (top 57)=some zex:=by kernel_rfl
noncomputable def F49:Fn3:=F48.fn "may_stand" ⟨3,true,zcx⟩
def d49:za1 (Gn T F48) true ["tiles","floor","place"] 3 (top 58)=some zev:=by kernel_rfl
noncomputable def F50:Fn3:=F49.fn "bare_places" ⟨1,true,zcm⟩
def d50:za1 (Gn T F49) true ["floor"] 1 (top 59)=some zds:=by kernel_rfl
noncomputable def F51:Fn3:=F50.fn "forced" ⟨2,true,zeI⟩
def d51:za1 (Gn T F50) true ["tiles","floor","many","first","found","place","number"] 2 (top 60)=some zfL:=by kernel_rfl
noncomputable def F52:Fn3:=F51.fn "row_over" ⟨2,false,zc7⟩
def d52:za1 (Gn T F51) false ["row","other"] 2 (top 62)=some zfi:=by kernel_rfl
noncomputable def F53:Fn3:=F52.fn "over" ⟨2,false,zjX⟩
def d53:za1 (Gn T F52) false ["one","other"] 2 (top 63)=some zne:=by kernel_rfl
noncomputable def F54:Fn3:=F53.fn "seen" ⟨1,false,zio⟩
def d54:za1 (Gn T F53) false ["layers","whole","layer"] 1 (top 64)=some znd:=by kernel_rfl
noncomputable def F55:Fn3:=F54.fn "row_under" ⟨2,false,zcv⟩
def d55:za1 (Gn T F54) false ["row","other"] 2 (top 65)=some zer:=by kernel_rfl
noncomputable def F56:Fn3:=F55.fn "under" ⟨2,false,zht⟩
def d56:za1 (Gn T F55) false ["one","other"] 2 (top 66)=some zjo:=by kernel_rfl
noncomputable def F57:Fn3:=F56.fn "under_all" ⟨2,false,zbV⟩
def d57:za1 (Gn T F56) false ["floor","layers","left","layer"] 2 (top 67)=some zdo:=by kernel_rfl
noncomputable def F58:Fn3:=F57.fn "only_seen" ⟨1,true,zcw⟩
def d58:za1 (Gn T F57) true ["layers"] 1 (top 68)=some zet:=by kernel_rfl
noncomputable def F59:Fn3:=F58.fn "hidden" ⟨1,true,zd4⟩
def d59:za1 (Gn T F58) true ["layers"] 1 (top 69)=some zhL:=by kernel_rfl
noncomputable def F60:Fn3:=F59.fn "neighbours" ⟨1,true,zcI⟩
def d60:za1 (Gn T F59) true ["place","row","column"] 1 (top 70)=some zdU:=by kernel_rfl
noncomputable def F61:Fn3:=F60.fn "alike_beside" ⟨2,true,zb6⟩
def d61:za1 (Gn T F60) true ["floor","place","number"] 2 (top 71)=some zcZ:=by kernel_rfl
noncomputable def F62:Fn3:=F61.fn "area" ⟨2,true,zfq⟩
def d62:za1 (Gn T F61) true ["floor","place","found","waiting","here","near"] 2 (top 72)=some zng:=by kernel_rfl
noncomputable def F63:Fn3:=F62.fn "areas" ⟨1,true,zhu⟩
def d63:za1 (Gn T F62) true ["floor","every"] 1 (top 73)=some zjq:=by kernel_rfl
noncomputable def F64:Fn3:=F63.cls "Painter" [] ⟨3,false,zaM⟩
def d64:za1 (Gn T (F63.at "Painter")) false ["self","tiles","floor"] 3 (inC 0 (top 75))=some zbQ:=by kernel_rfl
noncomputable def F65:Fn3:=F64.mt "floor" "Painter" ⟨1,false,zau⟩
def d65:za1 (Gn T (F64.at "Painter")) false ["self"] 1 (inC 1 (top 75))=some zcF:=by kernel_rfl
noncomputable def F66:Fn3:=F65.mt "clashes" "Painter" ⟨1,true,zar⟩
def d66:za1 (Gn T (F65.at "Painter")) true ["self"] 1 (inC 2 (top 75))=some zb1:=by kernel_rfl
noncomputable def F67:Fn3:=F66.mt "steps" "Painter" ⟨1,false,zaD⟩
def d67:za1 (Gn T (F66.at "Painter")) false ["self"] 1 (inC 4 (top 75))=some zcE:=by kernel_rfl
noncomputable def F68:Fn3:=F67.mt "change_to" "Painter" ⟨2,false,za3⟩
def d68:za1 (Gn T (F67.at "Painter")) false ["self","whole"] 2 (inC 5 (top 75))=some za6:=by kernel_rfl
noncomputable def F69:Fn3:=F68.mt "put" "Painter" ⟨3,false,zaL⟩
def d69:za1 (Gn T (F68.at "Painter")) false ["self","place","number"] 3 (inC 6 (top 75))=some zbP:=by kernel_rfl
noncomputable def F70:Fn3:=F69.mt "undo" "Painter" ⟨1,false,zaO⟩
def d70:za1 (Gn T (F69.at "Painter")) false ["self"] 1 (inC 10 (top 75))=some zb8:=by kernel_rfl
noncomputable def F71:Fn3:=F70.fn "_law_cell" ⟨2,false,zbX⟩
def d71:za1 (Gn T F70) false ["_law_script","_law_k"] 2 (top 77)=some zcA:=by kernel_rfl
noncomputable def F72:Fn3:=F71.fn "_law_pick" ⟨3,false,zaz⟩
def d72:za1 (Gn T F71) false ["_law_script","_law_k","_law_many","_law_drawn"] 3 (top 78)=some zey:=by kernel_rfl
noncomputable def F73:Fn3:=F72.fn "_law_tiles" ⟨3,false,zcK⟩
def d73:za1 (Gn T F72) false ["_law_script","_law_at","_law_most","_law_colours","_law_made","_law_k","_law_tile"] 3 (top 79)=some zdX:=by kernel_rfl
noncomputable def F74:Fn3:=F73.fn "_law_floor" ⟨6,false,zcM⟩
def d74:za1 (Gn T F73) false ["_law_script","_law_at","_law_tiles_here","_law_rows","_law_columns","_law_many","_law_made","_law_row","_law_line","_law_column","_law_here"] 6 (top 80)=some zd0:=by kernel_rfl
noncomputable def F75:Fn3:=F74.fn "_law_sides" ⟨2,false,zcL⟩
def d75:za1 (Gn T F74) false ["_law_script","_law_at"] 2 (top 81)=some zdY:=by kernel_rfl
noncomputable def F76:Fn3:=F75.fn "_law_corners" ⟨4,false,zbv⟩
def d76:za1 (Gn T F75) false ["_law_script","_law_at","_law_rows","_law_columns","_law_made","_law_row"] 4 (top 82)=some zc0:=by kernel_rfl
noncomputable def F77:Fn3:=F76.fn "_law_copied" ⟨1,false,zr4⟩
def s77:FnScope ["_law_thing"] ["_law_thing"] (zae (top 83)):=⟨rfl,rfl,rfl,by decide +kernel,rfl,by decide +kernel,by decide +kernel⟩
noncomputable abbrev F78:Fn3:=F77
def s78:FnScope ["_law_thing","_law_one","_law_key"] ["_law_thing"] (zae (top 84)):=⟨rfl,rfl,rfl,by decide +kernel,rfl,by decide +kernel,by decide +kernel⟩
noncomputable def F79:Fn3:=F78.fn "_law_is_refused" ⟨2,false,zaV⟩
def d79:za1 (Gn T F78) false ["_law_painter","_law_place","_law_kept","_law_what","e"] 2 (top 85)=some zbY:=by kernel_rfl
noncomputable def F80:Fn3:=F79.fn "_law_lists" ⟨3,false,zav⟩
def d80:za1 (Gn T F79) false ["_law_tiles_here","_law_floor_here","_law_corners_here","_law_made"] 3 (top 86)=some zdZ:=by kernel_rfl
def pre:List Stmt:=(zaP (top 87)).take 3
def post:List Stmt:=(zaP (top 87)).drop 6
def dp:(zwA (zlc (Gn T F80) (zae (top 87)).names ["_law_script","_law_tiles_here","_law_corners_here","_law_rows","_law_columns","_law_floor_here","_law_told","_law_asked","_law_layers","_law_copy","_law_one","_law_idle","_law_before"] false 40 true) pre).map DsA.f=some zrG:=by kernel_rfl
def dq:(blk (zlc (Gn T F80) (zae (top 87)).names ["_law_script","_law_tiles_here","_law_corners_here","_law_rows","_law_columns","_law_floor_here","_law_told","_law_asked","_law_layers","_law_copy","_law_one","_law_idle","_law_before"] false 40 true) post).map Dss.f=some zhd:=by kernel_rfl
def s81:FnScope ["_law_script","_law_tiles_here","_law_corners_here","_law_rows","_law_columns","_law_floor_here","_law_told","_law_asked","_law_layers","_law_copy","_law_one","_law_idle","_law_before"] ["_law_script"] (zae (top 87)):=⟨rfl,rfl,rfl,by decide +kernel,rfl,by decide +kernel,by decide +kernel⟩
def zp1{L M:List (Str×Addr)}:∀{C:Str},C∈L.map (·.1)->(L++M).lookup C=L.lookup C:=by
 induction L with
 |nil=>intro C h;simp at h|cons p L a=>
  intro C h;rw[List.cons_append,yaA,yaA]
  cases e:C==p.1 with
  |true=>rfl|false=>
   have:C∈L.map (·.1):=by
    rw[yav,yan]at h
    rcases h with h|h
    ·rw[h]at e;simp at e
    ·exact h
   exact a this
def zc3{L M:List (Str×Addr)}(nd:(L.map (·.2)).Nodup){C c:Str}(J:C∈L.map (·.1))(I:c∈L.map (·.1)):((L++M).lookup C).getD 0=((L++M).lookup c).getD 0↔C=c:=by
 rw[zp1 J,zp1 I];exact zuS nd J I
def gm{K:PySem.W.Frag}{n x:Str}{st:Stmt}{f:Addr}{J kV U pm cd ct:Value}{I an:Option Addr}{sl:Array (Option Value)}(a:PySem.W.nsIn K mainGlobals n=some (some (.ref f)))(l:K.lookup f=some ⟨J,I,.func (PySem.W.fnOf x x (zbR st) (zaP st) (zae st) .none kV U pm an cd ct),sl⟩)(c:PySem.W.codeIn K cd x=true)(k:PySem.W.keepIn K (.ref f)=true)(i:PySem.W.isFn K (.ref f)=true):GFn K n x st:=⟨f,a,J,I,kV,U,pm,an,cd,ct,sl,l,c,k,i⟩
def mm{K:PySem.W.Frag}{x q:Str}{st:Stmt}{f:Addr}{J kV U pm cd ct:Value}{I an:Option Addr}{sl:Array (Option Value)}{C:Addr}(a:PySem.W.findIn K (.ref C) x=some (some (.ref f)))(l:K.lookup f=some ⟨J,I,.func (PySem.W.fnOf x q (zbR st) (zaP st) (zae st) .none kV U pm an cd ct),sl⟩)(c:PySem.W.codeIn K cd q=true)(k:PySem.W.keepIn K (.ref f)=true)(i:PySem.W.isFn K (.ref f)=true):MFn K C x q st:=⟨f,a,J,I,kV,U,pm,an,cd,ct,sl,l,c,k,i⟩
def all_mk{l:PySem.W.OpenLaw}{w:PySem.World}{K:PySem.W.Frag}{h:Heap}{mg:Z6}{fa ao:Addr}(X:K.In h)(G:h.Ns mainGlobals mg)(c0:mg "law"=some (.ref fa))
  {av ak:Option Addr}{aq:Array (Option Value)}{ax ag ai ae aa aj:Value}
  {J I:Addr}
  (nyWays:PySem.W.nsIn K mainGlobals "Ways"=some (some (.ref J))) (pgWays:PySem.W.plainGet K J Str.empty=true) (hdWays:PySem.W.hasDictIn K J=true) (poWays:PySem.W.plainOver K J=true) (saWays:PySem.W.findIn K (.ref J) "__setattr__"=some (some (.builtin "object.__setattr__"))) (mkWays:PySem.W.makesIn K J=true) (kpWays:PySem.W.keepIn K (.ref J)=true)
  (naWaystiles:PySem.W.findIn K (.ref J) "tiles"=some none)
  (naWaysground:PySem.W.findIn K (.ref J) "ground"=some none)
  (naWayssize:PySem.W.findIn K (.ref J) "size"=some none)
  (naWaysis_round:PySem.W.findIn K (.ref J) "is_round"=some none)
  (naWaysknown:PySem.W.findIn K (.ref J) "known"=some none)
  (nyPainter:PySem.W.nsIn K mainGlobals "Painter"=some (some (.ref I))) (pgPainter:PySem.W.plainGet K I Str.empty=true) (hdPainter:PySem.W.hasDictIn K I=true) (poPainter:PySem.W.plainOver K I=true) (saPainter:PySem.W.findIn K (.ref I) "__setattr__"=some (some (.builtin "object.__setattr__"))) (mkPainter:PySem.W.makesIn K I=true) (kpPainter:PySem.W.keepIn K (.ref I)=true)
  (naPaintertiles:PySem.W.findIn K (.ref I) "tiles"=some none)
  (naPainternow:PySem.W.findIn K (.ref I) "now"=some none)
  (naPainterbefore:PySem.W.findIn K (.ref I) "before"=some none)
  (naPainterafter:PySem.W.findIn K (.ref I) "after"=some none)
  {a7:Addr}{aw ab:Option Addr}{au:Array (Option Value)}{ay a6 a8 a5 a4 a9:Value}
  {a3:Addr}{aG:Value}{aF:Option Addr}{ah:Nat}{aE:Array (Option Value)}
  (a33:PySem.W.findIn K (.ref J) "__init__"=some (some (.ref a7))) (i33:PySem.W.isFn K (.ref a7)=true)
  (l33:K.lookup a7=some ⟨ay,aw,.func (PySem.W.fnOf "__init__" "Ways.__init__" (zbR (inC 0 (top 53))) (zaP (inC 0 (top 53))) (zae (inC 0 (top 53))) (.ref a3) a6 a8 a5 ab a4 a9),au⟩) (c33:PySem.W.codeIn K a4 "Ways.__init__"=true) (k33:PySem.W.keepIn K (.ref a7)=true)
  (dk33:K.lookup a3=some ⟨aG,aF,.seq #[Value.bool false] ah,aE⟩)
  (a81:PySem.W.nsIn K mainGlobals "law"=some (some (.ref ao)))
  (l81:K.lookup ao=some ⟨ax,av,.func (PySem.W.fnOf "law" "law" (zbR (top 87)) (zaP (top 87)) (zae (top 87)) .none ag ai ae ak aa aj),aq⟩) (c81:PySem.W.codeIn K aa "law"=true) (k81:PySem.W.keepIn K (.ref ao)=true)
  (z1:PySem.W.nsIn K mainGlobals "isinstance"=some none)
  (z2:PySem.W.nsIn K mainGlobals "int"=some none)
  (z3:PySem.W.nsIn K mainGlobals "bool"=some none)
  (z4:PySem.W.nsIn K mainGlobals "tuple"=some none)
  (z5:PySem.W.nsIn K mainGlobals "list"=some none)
  (z6:PySem.W.nsIn K mainGlobals "len"=some none)
  (z7:PySem.W.nsIn K mainGlobals "range"=some none)
  (z8:PySem.W.nsIn K mainGlobals "all"=some none)
  (z9:PySem.W.nsIn K mainGlobals "sum"=some none)
  (z10:PySem.W.nsIn K mainGlobals "enumerate"=some none)
  (z11:PySem.W.nsIn K mainGlobals "zip"=some none)
  (z12:PySem.W.nsIn K mainGlobals "sorted"=some none)
  (z13:PySem.W.nsIn K mainGlobals "dict"=some none)
  (z14:PySem.W.nsIn K mainGlobals "ValueError"=some none)
  {gt1:Tok} (gl1:PySem.W.nsIn K mainGlobals "NORTH"=some (some (.int 0 gt1)))
  {gt2:Tok} (gl2:PySem.W.nsIn K mainGlobals "EAST"=some (some (.int 1 gt2)))
  {gt3:Tok} (gl3:PySem.W.nsIn K mainGlobals "SOUTH"=some (some (.int 2 gt3)))
  {gt4:Tok} (gl4:PySem.W.nsIn K mainGlobals "WEST"=some (some (.int 3 gt4)))
  {gt5:Tok} (gl5:PySem.W.nsIn K mainGlobals "CHOICES"=some (some (.int 16 gt5)))
  {c5:Tok} (gl6:PySem.W.nsIn K mainGlobals "NORTHWEST"=some (some (.int 0 c5)))
  {c4:Tok} (gl7:PySem.W.nsIn K mainGlobals "NORTHEAST"=some (some (.int 1 c4)))
  {c3:Tok} (gl8:PySem.W.nsIn K mainGlobals "SOUTHEAST"=some (some (.int 2 c3)))
  {c2:Tok} (gl9:PySem.W.nsIn K mainGlobals "SOUTHWEST"=some (some (.int 3 c2)))
  {e0 e1 e2 e3 e4 U:Addr}
  (n0:PySem.W.nsIn K mainGlobals "FloorError"=some (some (.ref e0))) (x0:PySem.W.excIn K e0 bmV "ValueError.__new__"=true)
  (n1:PySem.W.nsIn K mainGlobals "NoPlace"=some (some (.ref e1))) (x1:PySem.W.excIn K e1 bmV "ValueError.__new__"=true)
  (n2:PySem.W.nsIn K mainGlobals "NoTile"=some (some (.ref e2))) (x2:PySem.W.excIn K e2 bmV "ValueError.__new__"=true)
  (n3:PySem.W.nsIn K mainGlobals "NoFill"=some (some (.ref e3))) (x3:PySem.W.excIn K e3 bmV "ValueError.__new__"=true)
  (n4:PySem.W.nsIn K mainGlobals "Unlike"=some (some (.ref e4))) (x4:PySem.W.excIn K e4 bmV "ValueError.__new__"=true)
  (n5:PySem.W.nsIn K mainGlobals "Nothing"=some (some (.ref U))) (x5:PySem.W.excIn K U bmV "ValueError.__new__"=true)
  {dO:Value}{dU:Option Addr}{aD:ClassData}{dH:Array (Option Value)} (lk1:K.lookup e1=some ⟨dO,dU,.cls aD,dH⟩) (mr1:aD.mro=.ref e1::.ref e0::bmV)
  (ga1:PySem.W.findIn K (.ref e1) "__getattribute__"=some (some (.builtin "BaseException.__getattribute__"))) (gt1:PySem.W.findIn K (.ref e1) "__getattr__"=some none) (cc1:PySem.W.findIn K (.ref e1) "__class__"=some (some (.builtin "object.__class__")))
  {dN:Value}{dS:Option Addr}{aC:ClassData}{dG:Array (Option Value)} (lk2:K.lookup e2=some ⟨dN,dS,.cls aC,dG⟩) (mr2:aC.mro=.ref e2::.ref e0::bmV)
  (ga2:PySem.W.findIn K (.ref e2) "__getattribute__"=some (some (.builtin "BaseException.__getattribute__"))) (gt2:PySem.W.findIn K (.ref e2) "__getattr__"=some none) (cc2:PySem.W.findIn K (.ref e2) "__class__"=some (some (.builtin "object.__class__")))
  {dM:Value}{dR:Option Addr}{aB:ClassData}{dF:Array (Option Value)} (lk3:K.lookup e3=some ⟨dM,dR,.cls aB,dF⟩) (mr3:aB.mro=.ref e3::.ref e0::bmV)
  (ga3:PySem.W.findIn K (.ref e3) "__getattribute__"=some (some (.builtin "BaseException.__getattribute__"))) (gt3:PySem.W.findIn K (.ref e3) "__getattr__"=some none) (cc3:PySem.W.findIn K (.ref e3) "__class__"=some (some (.builtin "object.__class__")))
  {dJ:Value}{dQ:Option Addr}{aA:ClassData}{dE:Array (Option Value)} (lk4:K.lookup e4=some ⟨dJ,dQ,.cls aA,dE⟩) (mr4:aA.mro=.ref e4::.ref e0::bmV)
  (ga4:PySem.W.findIn K (.ref e4) "__getattribute__"=some (some (.builtin "BaseException.__getattribute__"))) (gt4:PySem.W.findIn K (.ref e4) "__getattr__"=some none) (cc4:PySem.W.findIn K (.ref e4) "__class__"=some (some (.builtin "object.__class__")))
  {dI:Value}{dP:Option Addr}{az:ClassData}{dD:Array (Option Value)} (lk5:K.lookup U=some ⟨dI,dP,.cls az,dD⟩) (mr5:az.mro=.ref U::.ref e0::bmV)
  (ga5:PySem.W.findIn K (.ref U) "__getattribute__"=some (some (.builtin "BaseException.__getattribute__"))) (gt5:PySem.W.findIn K (.ref U) "__getattr__"=some none) (cc5:PySem.W.findIn K (.ref U) "__class__"=some (some (.builtin "object.__class__")))
  (nd:[e0,e1,e2,e3,e4,U].Nodup)
  (p1:GFn K "is_whole" "is_whole" (top 13)) (p2:GFn K "is_tuple_of" "is_tuple_of" (top 14)) (p3:GFn K "has_number" "has_number" (top 15)) (p4:GFn K "may_lie" "may_lie" (top 16)) (p5:GFn K "size_of" "size_of" (top 17)) (p6:GFn K "places_of" "places_of" (top 18)) (p7:GFn K "is_row_like" "is_row_like" (top 19)) (p8:GFn K "is_like" "is_like" (top 20)) (p9:GFn K "refuse_unlike" "refuse_unlike" (top 21)) (bZ:GFn K "in_rows" "in_rows" (top 22)) (bY:GFn K "number_at" "number_at" (top 23)) (bX:GFn K "laid_places" "laid_places" (top 24)) (bW:GFn K "has_place" "has_place" (top 25)) (bV:GFn K "refuse_outside" "refuse_outside" (top 26)) (bU:GFn K "tile_at" "tile_at" (top 27)) (bT:GFn K "with_number" "with_number" (top 28)) (bS:GFn K "with_tile" "with_tile" (top 29)) (bR:GFn K "edge_at" "edge_at" (top 30)) (bQ:GFn K "colours_east" "colours_east" (top 31)) (bP:GFn K "colours_south" "colours_south" (top 32)) (bO:GFn K "do_clash" "do_clash" (top 33)) (bN:GFn K "clashes_floors" "clashes" (top 34)) (bM:GFn K "corner_tile" "corner_tile" (top 42)) (bL:GFn K "corner_number" "corner_number" (top 43)) (bK:GFn K "corners_at" "corners_at" (top 44)) (bJ:GFn K "tile_by" "tile_by" (top 45)) (bI:GFn K "corner_set" "corner_set" (top 46)) (bH:GFn K "number_between" "number_between" (top 47)) (bG:GFn K "row_between" "row_between" (top 48)) (bF:GFn K "floor_of" "floor_of" (top 49)) (bE:GFn K "tiles_around" "tiles_around" (top 50)) (bD:GFn K "suits" "suits" (top 52)) (bC:MFn K J "first_seam" "Ways.first_seam" (inC 1 (top 53))) (bB:MFn K J "ends_row" "Ways.ends_row" (inC 2 (top 53))) (bA:MFn K J "colour_round" "Ways.colour_round" (inC 3 (top 53))) (bz:MFn K J "seam_behind" "Ways.seam_behind" (inC 4 (top 53))) (bx:MFn K J "numbers_for" "Ways.numbers_for" (inC 5 (top 53))) (bw:MFn K J "fits_round" "Ways.fits_round" (inC 6 (top 53))) (bu:MFn K J "fits" "Ways.fits" (inC 7 (top 53))) (bt:MFn K J "choices" "Ways.choices" (inC 8 (top 53))) (br:MFn K J "count_from" "Ways.count_from" (inC 9 (top 53))) (bq:MFn K J "count_all" "Ways.count_all" (inC 10 (top 53))) (bp:MFn K J "numbers_by" "Ways.numbers_by" (inC 11 (top 53))) (bo:MFn K J "whole_by" "Ways.whole_by" (inC 12 (top 53))) (bj:GFn K "count_fills" "count_fills" (top 54)) (bh:GFn K "fill" "fill" (top 55)) (bg:GFn K "counts_at" "counts_at" (top 57)) (bc:GFn K "may_stand" "may_stand" (top 58)) (bb:GFn K "bare_places" "bare_places" (top 59)) (ba:GFn K "forced" "forced" (top 60)) (b9:GFn K "row_over" "row_over" (top 62)) (b8:GFn K "over" "over" (top 63)) (b7:GFn K "seen" "seen" (top 64)) (b6:GFn K "row_under" "row_under" (top 65)) (b5:GFn K "under" "under" (top 66)) (b4:GFn K "under_all" "under_all" (top 67)) (b3:GFn K "only_seen" "only_seen" (top 68)) (b2:GFn K "hidden" "hidden" (top 69)) (b1:GFn K "neighbours" "neighbours" (top 70)) (b0:GFn K "alike_beside" "alike_beside" (top 71)) (aZ:GFn K "area" "area" (top 72)) (aY:GFn K "areas" "areas" (top 73)) (aX:MFn K I "__init__" "Painter.__init__" (inC 0 (top 75))) (aW:MFn K I "floor" "Painter.floor" (inC 1 (top 75))) (aV:MFn K I "clashes" "Painter.clashes" (inC 2 (top 75))) (aU:MFn K I "steps" "Painter.steps" (inC 4 (top 75))) (aT:MFn K I "change_to" "Painter.change_to" (inC 5 (top 75))) (aS:MFn K I "put" "Painter.put" (inC 6 (top 75))) (aR:MFn K I "undo" "Painter.undo" (inC 10 (top 75))) (aQ:GFn K "_law_cell" "_law_cell" (top 77)) (aP:GFn K "_law_pick" "_law_pick" (top 78)) (aO:GFn K "_law_tiles" "_law_tiles" (top 79)) (aN:GFn K "_law_floor" "_law_floor" (top 80)) (aM:GFn K "_law_sides" "_law_sides" (top 81)) (aL:GFn K "_law_corners" "_law_corners" (top 82)) (aK:GFn K "_law_copied" "_law_copied" (top 83)) (aJ:GFn K "_law_spoil" "_law_spoil" (top 84)) (aI:GFn K "_law_is_refused" "_law_is_refused" (top 85)) (aH:GFn K "_law_lists" "_law_lists" (top 86))
  : ∃fd:FuncData,(∀(s:Shared) (v:Value),BindsTo s fd ⟨[v],[]⟩ [("_law_script",v)])/\∀base:Heap,K.In base->base.Ns mainGlobals mg->FnOk l.prog w K mg base (CXE l.prog w) 140 fa fd ["_law_script"] (S2.znS K):=by
 have e:=c0.symm.trans (yaP X G a81);cases e;have d:Cls K J:=⟨pgWays,hdWays,poWays,saWays⟩;have f:Cls K I:=⟨pgPainter,hdPainter,poPainter,saPainter⟩;have e7:FunD K "__init__" "Ways.__init__" (inC 0 (top 53)) a7 _ #[Value.bool false]:=⟨⟨_,_,_,_,ah,_,_,_,_,_,_,_,rfl,l33,c33,dk33,rfl⟩⟩;have dV:zbz K (PySem.W.fnOf "__init__" "Ways.__init__" (zbR (inC 0 (top 53))) (zaP (inC 0 (top 53))) (zae (inC 0 (top 53))) (.ref a3) a6 a8 a5 ab a4 a9) ["self","tiles","floor","is_round"] []:=fun s us KX O=>bb4 (p:=fun us=>BindsTo s _ ⟨us,[]⟩ ((["self","tiles","floor","is_round"]:List Str).zip (us++[]))) (fun _ _ _ _=>PySem.W.binds_K KX rfl dk33 rfl rfl rfl) us (by simpa using O)
 have B:zbz K (PySem.W.fnOf "__init__" "Ways.__init__" (zbR (inC 0 (top 53))) (zaP (inC 0 (top 53))) (zae (inC 0 (top 53))) (.ref a3) a6 a8 a5 ab a4 a9) ["self","tiles","floor","is_round"] [Value.bool false]:=fun s us KX O=>bb3 (p:=fun us=>BindsTo s _ ⟨us,[]⟩ ((["self","tiles","floor","is_round"]:List Str).zip (us++[Value.bool false]))) (fun _ _ _=>PySem.W.binds_K KX rfl dk33 rfl rfl rfl) us (by simpa using O)
 have dY:=zpO (st:=(top 87)) l81 c81 k81;refine⟨PySem.W.fnOf "law" "law" (zbR (top 87)) (zaP (top 87)) (zae (top 87)) .none ag ai ae ak aa aj,fun s v=>.of_eq rfl,fun base _ _=>?_⟩
 let cl:Cf:=⟨fun x=>(([("FloorError",e0),("NoPlace",e1),("NoTile",e2),("NoFill",e3),("Unlike",e4),("Nothing",U),("Ways",J),("Painter",I)]:List (Str×Addr)).lookup x).getD 0,K,l.prog,w⟩
 have g0:GOk cl (Gn T F0) l.prog w K mg base 0:=zz8 (cl:=cl) (zab ⟨.int 0,_,yaP X G gl1,⟨_,rfl⟩,fun _=>.int _⟩ (zab ⟨.int 1,_,yaP X G gl2,⟨_,rfl⟩,fun _=>.int _⟩ (zab ⟨.int 2,_,yaP X G gl3,⟨_,rfl⟩,fun _=>.int _⟩ (zab ⟨.int 3,_,yaP X G gl4,⟨_,rfl⟩,fun _=>.int _⟩ (zab ⟨.int 16,_,yaP X G gl5,⟨_,rfl⟩,fun _=>.int _⟩ (zab ⟨.int 0,_,yaP X G gl6,⟨_,rfl⟩,fun _=>.int _⟩ (zab ⟨.int 1,_,yaP X G gl7,⟨_,rfl⟩,fun _=>.int _⟩ (zab ⟨.int 2,_,yaP X G gl8,⟨_,rfl⟩,fun _=>.int _⟩ (zab ⟨.int 3,_,yaP X G gl9,⟨_,rfl⟩,fun _=>.int _⟩ zdT))))))))) (zab (yaC X G z1) (zab (yaC X G z2) (zab (yaC X G z3) (zab (yaC X G z4) (zab (yaC X G z5) (zab (yaC X G z6) (zab (yaC X G z7) (zab (yaC X G z8) (zab (yaC X G z9) (zab (yaC X G z10) (zab (yaC X G z11) (zab (yaC X G z12) (zab (yaC X G z13) (zab (yaC X G z14) zdT)))))))))))))) (zab ⟨yaP X G n0,x0⟩ (zab ⟨yaP X G n1,x1⟩ (zab ⟨yaP X G n2,x2⟩ (zab ⟨yaP X G n3,x3⟩ (zab ⟨yaP X G n4,x4⟩ (zab ⟨yaP X G n5,x5⟩ zdT)))))) (zab ⟨⟨_,_,x4⟩,_,_,_,_,lk4,zga mr4⟩ (zab ⟨⟨_,_,x1⟩,_,_,_,_,lk1,zga mr1⟩ (zab ⟨⟨_,_,x2⟩,_,_,_,_,lk2,zga mr2⟩ (zab ⟨⟨_,_,x3⟩,_,_,_,_,lk3,zga mr3⟩ (zab ⟨⟨_,_,x5⟩,_,_,_,_,lk5,zga mr5⟩ zdT))))) (zab (ziD (K:=K) (c:="Unlike") (cl:=cl) lk4 mr4 rfl ga4 gt4 cc4 (zab x0 (zab x1 (zab x2 (zab x3 (zab x4 (zab x5 zdT)))))) (fun C g=>⟨zc3 (L:=[("FloorError",e0),("NoPlace",e1),("NoTile",e2),("NoFill",e3),("Unlike",e4),("Nothing",U)]) (M:=[("Ways",J),("Painter",I)]) (c:="Unlike") nd g (by simp),zc3 (L:=[("FloorError",e0),("NoPlace",e1),("NoTile",e2),("NoFill",e3),("Unlike",e4),("Nothing",U)]) (M:=[("Ways",J),("Painter",I)]) (c:="FloorError") nd g (by simp)⟩)) (zab (ziD (K:=K) (c:="NoPlace") (cl:=cl) lk1 mr1 rfl ga1 gt1 cc1 (zab x0 (zab x1 (zab x2 (zab x3 (zab x4 (zab x5 zdT)))))) (fun C g=>⟨zc3 (L:=[("FloorError",e0),("NoPlace",e1),("NoTile",e2),("NoFill",e3),("Unlike",e4),("Nothing",U)]) (M:=[("Ways",J),("Painter",I)]) (c:="NoPlace") nd g (by simp),zc3 (L:=[("FloorError",e0),("NoPlace",e1),("NoTile",e2),("NoFill",e3),("Unlike",e4),("Nothing",U)]) (M:=[("Ways",J),("Painter",I)]) (c:="FloorError") nd g (by simp)⟩)) (zab (ziD (K:=K) (c:="NoTile") (cl:=cl) lk2 mr2 rfl ga2 gt2 cc2 (zab x0 (zab x1 (zab x2 (zab x3 (zab x4 (zab x5 zdT)))))) (fun C g=>⟨zc3 (L:=[("FloorError",e0),("NoPlace",e1),("NoTile",e2),("NoFill",e3),("Unlike",e4),("Nothing",U)]) (M:=[("Ways",J),("Painter",I)]) (c:="NoTile") nd g (by simp),zc3 (L:=[("FloorError",e0),("NoPlace",e1),("NoTile",e2),("NoFill",e3),("Unlike",e4),("Nothing",U)]) (M:=[("Ways",J),("Painter",I)]) (c:="FloorError") nd g (by simp)⟩)) (zab (ziD (K:=K) (c:="NoFill") (cl:=cl) lk3 mr3 rfl ga3 gt3 cc3 (zab x0 (zab x1 (zab x2 (zab x3 (zab x4 (zab x5 zdT)))))) (fun C g=>⟨zc3 (L:=[("FloorError",e0),("NoPlace",e1),("NoTile",e2),("NoFill",e3),("Unlike",e4),("Nothing",U)]) (M:=[("Ways",J),("Painter",I)]) (c:="NoFill") nd g (by simp),zc3 (L:=[("FloorError",e0),("NoPlace",e1),("NoTile",e2),("NoFill",e3),("Unlike",e4),("Nothing",U)]) (M:=[("Ways",J),("Painter",I)]) (c:="FloorError") nd g (by simp)⟩)) (zab (ziD (K:=K) (c:="Nothing") (cl:=cl) lk5 mr5 rfl ga5 gt5 cc5 (zab x0 (zab x1 (zab x2 (zab x3 (zab x4 (zab x5 zdT)))))) (fun C g=>⟨zc3 (L:=[("FloorError",e0),("NoPlace",e1),("NoTile",e2),("NoFill",e3),("Unlike",e4),("Nothing",U)]) (M:=[("Ways",J),("Painter",I)]) (c:="Nothing") nd g (by simp),zc3 (L:=[("FloorError",e0),("NoPlace",e1),("NoTile",e2),("NoFill",e3),("Unlike",e4),("Nothing",U)]) (M:=[("Ways",J),("Painter",I)]) (c:="FloorError") nd g (by simp)⟩)) zdT))))) (zab ⟨d,naWaystiles⟩ (zab ⟨d,naWaysground⟩ (zab ⟨d,naWayssize⟩ (zab ⟨d,naWaysis_round⟩ (zab ⟨d,naWaysknown⟩ (zab ⟨f,naPaintertiles⟩ (zab ⟨f,naPainternow⟩ (zab ⟨f,naPainterbefore⟩ (zab ⟨f,naPainterafter⟩ zdT)))))))));have g1:GOk cl (Gn T F1) l.prog w K mg base 1:=g0.addG X G p1 rfl rfl rfl d1 (fun _ _ _ _ _ _=>bb1 fun _=>rfl);have g2:GOk cl (Gn T F2) l.prog w K mg base 2:=g1.addG X G p2 rfl rfl rfl d2 (fun _ _ _ _ _ _=>bb3 fun _ _ _=>rfl);have g3:GOk cl (Gn T F3) l.prog w K mg base 3:=g2.addG X G p3 rfl rfl rfl d3 (fun _ _ _ _ _ _=>bb2 fun _ _=>rfl);have g4:GOk cl (Gn T F4) l.prog w K mg base 4:=g3.addG X G p4 rfl rfl rfl d4 (fun _ _ _ _ _ _=>bb2 fun _ _=>rfl);have g5:GOk cl (Gn T F5) l.prog w K mg base 5:=g4.addG X G p5 rfl rfl rfl d5 (fun _ _ _ _ _ _=>bb1 fun _=>rfl);have g6:GOk cl (Gn T F6) l.prog w K mg base 6:=g5.addG X G p6 rfl rfl rfl d6 (fun _ _ _ _ _ _=>bb1 fun _=>rfl);have g7:GOk cl (Gn T F7) l.prog w K mg base 7:=g6.addG X G p7 rfl rfl rfl d7 (fun _ _ _ _ _ _=>bb2 fun _ _=>rfl);have g8:GOk cl (Gn T F8) l.prog w K mg base 8:=g7.addG X G p8 rfl rfl rfl d8 (fun _ _ _ _ _ _=>bb2 fun _ _=>rfl);have g9:GOk cl (Gn T F9) l.prog w K mg base 9:=g8.addG X G p9 rfl rfl rfl d9 (fun _ _ _ _ _ _=>bb2 fun _ _=>rfl);have dC:GOk cl (Gn T F10) l.prog w K mg base 10:=g9.addG X G bZ rfl rfl rfl d10 (fun _ _ _ _ _ _=>bb2 fun _ _=>rfl);have dB:GOk cl (Gn T F11) l.prog w K mg base 11:=dC.addG X G bY rfl rfl rfl d11 (fun _ _ _ _ _ _=>bb2 fun _ _=>rfl);have dA:GOk cl (Gn T F12) l.prog w K mg base 12:=dB.addG X G bX rfl rfl rfl d12 (fun _ _ _ _ _ _=>bb1 fun _=>rfl);have dz:GOk cl (Gn T F13) l.prog w K mg base 13:=dA.addG X G bW rfl rfl rfl d13 (fun _ _ _ _ _ _=>bb2 fun _ _=>rfl);have dy:GOk cl (Gn T F14) l.prog w K mg base 14:=dz.addG X G bV rfl rfl rfl d14 (fun _ _ _ _ _ _=>bb2 fun _ _=>rfl);have dw:GOk cl (Gn T F15) l.prog w K mg base 15:=dy.addG X G bU rfl rfl rfl d15 (fun _ _ _ _ _ _=>bb2 fun _ _=>rfl);have dv:GOk cl (Gn T F16) l.prog w K mg base 16:=dw.addG X G bT rfl rfl rfl d16 (fun _ _ _ _ _ _=>bb3 fun _ _ _=>rfl);have du:GOk cl (Gn T F17) l.prog w K mg base 17:=dv.addG X G bS rfl rfl rfl d17 (fun _ _ _ _ _ _=>bb4 fun _ _ _ _=>rfl);have dt:GOk cl (Gn T F18) l.prog w K mg base 18:=du.addG X G bR rfl rfl rfl d18 (fun _ _ _ _ _ _=>bb4 fun _ _ _ _=>rfl);have dr:GOk cl (Gn T F19) l.prog w K mg base 19:=dt.addG X G bQ rfl rfl rfl d19 (fun _ _ _ _ _ _=>bb3 fun _ _ _=>rfl);have dn:GOk cl (Gn T F20) l.prog w K mg base 20:=dr.addG X G bP rfl rfl rfl d20 (fun _ _ _ _ _ _=>bb3 fun _ _ _=>rfl);have dm:GOk cl (Gn T F21) l.prog w K mg base 21:=dn.addG X G bO rfl rfl rfl d21 (fun _ _ _ _ _ _=>bb1 fun _=>rfl);have dk:GOk cl (Gn T F22) l.prog w K mg base 22:=dm.addG X G bN rfl rfl rfl d22 (fun _ _ _ _ _ _=>bb2 fun _ _=>rfl);have dj:GOk cl (Gn T F23) l.prog w K mg base 23:=dk.addG X G bM rfl rfl rfl d23 (fun _ _ _ _ _ _=>bb4 fun _ _ _ _=>rfl);have di:GOk cl (Gn T F24) l.prog w K mg base 24:=dj.addG X G bL rfl rfl rfl d24 (fun _ _ _ _ _ _=>bb4 fun _ _ _ _=>rfl);have dh:GOk cl (Gn T F25) l.prog w K mg base 25:=di.addG X G bK rfl rfl rfl d25 (fun _ _ _ _ _ _=>bb1 fun _=>rfl);have dg:GOk cl (Gn T F26) l.prog w K mg base 26:=dh.addG X G bJ rfl rfl rfl d26 (fun _ _ _ _ _ _=>bb1 fun _=>rfl);have de:GOk cl (Gn T F27) l.prog w K mg base 27:=dg.addG X G bI rfl rfl rfl d27 (fun _ _ _ _ _ _=>bb0 rfl);have dd:GOk cl (Gn T F28) l.prog w K mg base 28:=de.addG X G bH rfl rfl rfl d28 (fun _ _ _ _ _ _=>bb3 fun _ _ _=>rfl);have dc:GOk cl (Gn T F29) l.prog w K mg base 29:=dd.addG X G bG rfl rfl rfl d29 (fun _ _ _ _ _ _=>bb2 fun _ _=>rfl);have da:GOk cl (Gn T F30) l.prog w K mg base 30:=dc.addG X G bF rfl rfl rfl d30 (fun _ _ _ _ _ _=>bb1 fun _=>rfl);have d0:GOk cl (Gn T F31) l.prog w K mg base 31:=da.addG X G bE rfl rfl rfl d31 (fun _ _ _ _ _ _=>bb2 fun _ _=>rfl);have t:GOk cl (Gn T F32) l.prog w K mg base 32:=d0.addG X G bD rfl rfl rfl d32 (fun _ _ _ _ _ _=>bb2 fun _ _=>rfl);have e9:=zuv (cl:=cl) (wo:=w) (P:=l.prog) e7 s33 (t.at "Ways") rfl rfl rfl d33;have cZ:GOk cl (Gn T F33) l.prog w K mg base 34:=GOk.addK (k':=33) (fi:=⟨4,false,zaZ⟩) (dvs:=[.bl false]) (t.up (by decide)) (by decide) (yaP X G nyWays) ⟨mkWays,a33,i33,kpWays⟩ dV B (.cons rfl .nil) (fun _=>(.cons (.bl _) .nil)) e9;have cY:GOk cl (Gn T F34) l.prog w K mg base 35:=cZ.addMG (c:="Ways") d bC rfl rfl rfl d34 (fun _ _ _ _ _ _=>bb1 fun _=>rfl);have cX:GOk cl (Gn T F35) l.prog w K mg base 36:=cY.addMG (c:="Ways") d bB rfl rfl rfl d35 (fun _ _ _ _ _ _=>bb2 fun _ _=>rfl);have cW:GOk cl (Gn T F36) l.prog w K mg base 37:=cX.addMG (c:="Ways") d bA rfl rfl rfl d36 (fun _ _ _ _ _ _=>bb4 fun _ _ _ _=>rfl);have cU:GOk cl (Gn T F37) l.prog w K mg base 38:=cW.addMG (c:="Ways") d bz rfl rfl rfl d37 (fun _ _ _ _ _ _=>bb4 fun _ _ _ _=>rfl);have cT:GOk cl (Gn T F38) l.prog w K mg base 39:=cU.addMG (c:="Ways") d bx rfl rfl rfl d38 (fun _ _ _ _ _ _=>bb2 fun _ _=>rfl);have cS:GOk cl (Gn T F39) l.prog w K mg base 40:=cT.addMG (c:="Ways") d bw rfl rfl rfl d39 (fun _ _ _ _ _ _=>bb4 fun _ _ _ _=>rfl);have cR:GOk cl (Gn T F40) l.prog w K mg base 41:=cS.addMG (c:="Ways") d bu rfl rfl rfl d40 (fun _ _ _ _ _ _=>bb4 fun _ _ _ _=>rfl);have cQ:GOk cl (Gn T F41) l.prog w K mg base 42:=cR.addMG (c:="Ways") d bt rfl rfl rfl d41 (fun _ _ _ _ _ _=>bb3 fun _ _ _=>rfl);have cP:GOk cl (Gn T F42) l.prog w K mg base 82:=cQ.addRG (c:="Ways") d br s42 rfl rfl rfl (fun _ _ _ _ _ _=>bb3 fun _ _ _=>rfl) d42 40;have cO:GOk cl (Gn T F43) l.prog w K mg base 83:=cP.addMG (c:="Ways") d bq rfl rfl rfl d43 (fun _ _ _ _ _ _=>bb1 fun _=>rfl);have cN:GOk cl (Gn T F44) l.prog w K mg base 84:=cO.addMG (c:="Ways") d bp rfl rfl rfl d44 (fun _ _ _ _ _ _=>bb2 fun _ _=>rfl);have cM:GOk cl (Gn T F45) l.prog w K mg base 85:=cN.addMG (c:="Ways") d bo rfl rfl rfl d45 (fun _ _ _ _ _ _=>bb2 fun _ _=>rfl);have cL:GOk cl (Gn T F46) l.prog w K mg base 86:=cM.addG X G bj rfl rfl rfl d46 (fun _ _ _ _ _ _=>bb2 fun _ _=>rfl);have cK:GOk cl (Gn T F47) l.prog w K mg base 87:=cL.addG X G bh rfl rfl rfl d47 (fun _ _ _ _ _ _=>bb3 fun _ _ _=>rfl);have cJ:GOk cl (Gn T F48) l.prog w K mg base 88:=cK.addG X G bg rfl rfl rfl d48 (fun _ _ _ _ _ _=>bb3 fun _ _ _=>rfl);have cI:GOk cl (Gn T F49) l.prog w K mg base 89:=cJ.addG X G bc rfl rfl rfl d49 (fun _ _ _ _ _ _=>bb3 fun _ _ _=>rfl);have cH:GOk cl (Gn T F50) l.prog w K mg base 90:=cI.addG X G bb rfl rfl rfl d50 (fun _ _ _ _ _ _=>bb1 fun _=>rfl);have cG:GOk cl (Gn T F51) l.prog w K mg base 91:=cH.addG X G ba rfl rfl rfl d51 (fun _ _ _ _ _ _=>bb2 fun _ _=>rfl);have cF:GOk cl (Gn T F52) l.prog w K mg base 92:=cG.addG X G b9 rfl rfl rfl d52 (fun _ _ _ _ _ _=>bb2 fun _ _=>rfl);have cE:GOk cl (Gn T F53) l.prog w K mg base 93:=cF.addG X G b8 rfl rfl rfl d53 (fun _ _ _ _ _ _=>bb2 fun _ _=>rfl);have cD:GOk cl (Gn T F54) l.prog w K mg base 94:=cE.addG X G b7 rfl rfl rfl d54 (fun _ _ _ _ _ _=>bb1 fun _=>rfl);have cC:GOk cl (Gn T F55) l.prog w K mg base 95:=cD.addG X G b6 rfl rfl rfl d55 (fun _ _ _ _ _ _=>bb2 fun _ _=>rfl);have cB:GOk cl (Gn T F56) l.prog w K mg base 96:=cC.addG X G b5 rfl rfl rfl d56 (fun _ _ _ _ _ _=>bb2 fun _ _=>rfl);have cA:GOk cl (Gn T F57) l.prog w K mg base 97:=cB.addG X G b4 rfl rfl rfl d57 (fun _ _ _ _ _ _=>bb2 fun _ _=>rfl);have cz:GOk cl (Gn T F58) l.prog w K mg base 98:=cA.addG X G b3 rfl rfl rfl d58 (fun _ _ _ _ _ _=>bb1 fun _=>rfl);have cy:GOk cl (Gn T F59) l.prog w K mg base 99:=cz.addG X G b2 rfl rfl rfl d59 (fun _ _ _ _ _ _=>bb1 fun _=>rfl);have cx:GOk cl (Gn T F60) l.prog w K mg base 100:=cy.addG X G b1 rfl rfl rfl d60 (fun _ _ _ _ _ _=>bb1 fun _=>rfl);have cw:GOk cl (Gn T F61) l.prog w K mg base 101:=cx.addG X G b0 rfl rfl rfl d61 (fun _ _ _ _ _ _=>bb2 fun _ _=>rfl);have cv:GOk cl (Gn T F62) l.prog w K mg base 102:=cw.addG X G aZ rfl rfl rfl d62 (fun _ _ _ _ _ _=>bb2 fun _ _=>rfl);have cu:GOk cl (Gn T F63) l.prog w K mg base 103:=cv.addG X G aY rfl rfl rfl d63 (fun _ _ _ _ _ _=>bb1 fun _=>rfl);have cq:GOk cl (Gn T F64) l.prog w K mg base 105:=cu.addKG (c:="Painter") X G nyPainter mkPainter kpPainter aX rfl rfl rfl d64 (fun _ _ _ _ _ _=>bb3 fun _ _ _=>rfl);have cm:GOk cl (Gn T F65) l.prog w K mg base 106:=cq.addMG (c:="Painter") f aW rfl rfl rfl d65 (fun _ _ _ _ _ _=>bb1 fun _=>rfl);have ck:GOk cl (Gn T F66) l.prog w K mg base 107:=cm.addMG (c:="Painter") f aV rfl rfl rfl d66 (fun _ _ _ _ _ _=>bb1 fun _=>rfl);have cj:GOk cl (Gn T F67) l.prog w K mg base 108:=ck.addMG (c:="Painter") f aU rfl rfl rfl d67 (fun _ _ _ _ _ _=>bb1 fun _=>rfl);have cg:GOk cl (Gn T F68) l.prog w K mg base 109:=cj.addMG (c:="Painter") f aT rfl rfl rfl d68 (fun _ _ _ _ _ _=>bb2 fun _ _=>rfl);have cf:GOk cl (Gn T F69) l.prog w K mg base 110:=cg.addMG (c:="Painter") f aS rfl rfl rfl d69 (fun _ _ _ _ _ _=>bb3 fun _ _ _=>rfl);have cc:GOk cl (Gn T F70) l.prog w K mg base 111:=cf.addMG (c:="Painter") f aR rfl rfl rfl d70 (fun _ _ _ _ _ _=>bb1 fun _=>rfl);have cb:GOk cl (Gn T F71) l.prog w K mg base 112:=cc.addG X G aQ rfl rfl rfl d71 (fun _ _ _ _ _ _=>bb2 fun _ _=>rfl);have c9:GOk cl (Gn T F72) l.prog w K mg base 113:=cb.addG X G aP rfl rfl rfl d72 (fun _ _ _ _ _ _=>bb3 fun _ _ _=>rfl);have c8:GOk cl (Gn T F73) l.prog w K mg base 114:=c9.addG X G aO rfl rfl rfl d73 (fun _ _ _ _ _ _=>bb3 fun _ _ _=>rfl);have c7:GOk cl (Gn T F74) l.prog w K mg base 115:=c8.addG X G aN rfl rfl rfl d74 (fun _ _ _ _ _ _=>bb6 fun _ _ _ _ _ _=>rfl);have Z:GOk cl (Gn T F75) l.prog w K mg base 116:=c7.addG X G aM rfl rfl rfl d75 (fun _ _ _ _ _ _=>bb2 fun _ _=>rfl);have Y:GOk cl (Gn T F76) l.prog w K mg base 117:=Z.addG X G aL rfl rfl rfl d76 (fun _ _ _ _ _ _=>bb4 fun _ _ _ _=>rfl);obtain⟨y,dX,H⟩:=aK.ex;obtain⟨A,e6,q,m,_⟩:=H.un (ps:=["_law_thing"]) (fun _ _ _ _ _ _=>bb1 fun _=>rfl);have o:=yaP X G dX;have D:=fun k=>zwt (P:=l.prog) (wo:=w) (mg:=mg) (base:=base) (k:=k) e6 s77 (by kernel_rfl) q m (yaC X G z1) (yaC X G z5) (yaC X G z4) (yaC X G z13) o (by rfl) (by rfl) (by rfl) (by rfl) rfl 20
 have V:GOk cl (Gn T F77) l.prog w K mg base 137:=GOk.add (k:=136) (fi:=⟨1,false,zr4⟩) (Y.up (by decide)) o m q (zuB (D 117));obtain⟨u,dW,F⟩:=aJ.ex;obtain⟨z,dZ,E,n,_⟩:=F.un (ps:=["_law_thing"]) (fun _ _ _ _ _ _=>bb1 fun _=>rfl);have r:=yaP X G dW;have ea:=fun k=>znQ (P:=l.prog) (wo:=w) (mg:=mg) (base:=base) (k:=k) dZ s78 rfl (by kernel_rfl) E n (yaC X G z1) (yaC X G z5) (yaC X G z4) (yaC X G z13) r (by rfl) (by rfl) rfl 20
 have S:GOk cl (Gn T F78) l.prog w K mg base 137:=V;have R:GOk cl (Gn T F79) l.prog w K mg base 138:=S.addG X G aI rfl rfl rfl d79 (fun _ _ _ _ _ _=>bb2 fun _ _=>rfl);have Q:GOk cl (Gn T F80) l.prog w K mg base 139:=R.addG X G aH rfl rfl rfl d80 (fun _ _ _ _ _ _=>bb3 fun _ _ _=>rfl);have e8:=zuu (cl:=cl) (wo:=w) (P:=l.prog) (G:=Gn T F80) (N:=["_law_script","_law_tiles_here","_law_corners_here","_law_rows","_law_columns","_law_floor_here","_law_told","_law_asked","_law_layers","_law_copy","_law_one","_law_idle","_law_before"]) (a:=1) (b:=5) (c:=2) (i:=6) (j:=7) (pre:=pre) (post:=post) dY s81 Q rfl rfl rfl rfl dp dq (by kernel_rfl) (by kernel_rfl) rfl ⟨y,A,o,m,q,D 119⟩ ⟨u,z,r,n,E,ea 119⟩;exact e8.imp (zt9 (cl:=cl) zoJ)
def walk{l:PySem.W.OpenLaw}{q:Program}{loose:List Str}{XP:(Str->Option Value)->Heap->Prop}{J:PySem.World->Heap->Prop}{d:DefRec}{K:Params->PySem.W.Frag}(U:l.most=some 63)(I:d.params.defaults=[])
  (hY:∀(w:PySem.World) (h:Heap),J w h->(K w.params).In h)
  (F:∀(w:PySem.World) (mg:Z6) (fa:Addr) (h:Heap),(K w.params).In h->h.Ns mainGlobals mg->mg d.name=some (.ref fa) →
   ∃fd:FuncData,(∀(s:Shared) (u:Value),BindsTo s fd ⟨[u],[]⟩ [("_law_script",u)])/\∀base:Heap,(K w.params).In base->base.Ns mainGlobals mg->FnOk l.prog w (K w.params) mg base (CXE l.prog w) 140 fa fd ["_law_script"] (S2.znS (K w.params))):
  PySem.W.WalkO q loose XP J l.row.toRowW d [] (fun f vs=>PySem.call f vs):=
 L2.zp7 (n:=63) (k:=140) (x:="_law_script") (CX:=fun w=>CXE l.prog w) (sp:=fun w=>S2.znS (K w.params)) U (by decide) I ⟨rfl,by decide,by decide⟩ hY F (fun _ _ a ns b e c=>⟨a,ns,rfl,b,e,c,fun _=>rfl⟩) (by rintro _ _ _ _ _ ⟨_,_,_,_,_,_,_,_,_,_,_,_,_,_,z⟩;exact z)
end M95
namespace PySem.W.Fast
#print "9K|09}6.N9Pp}PeNMO&lFfJ@l:pls'#g%*0kys-J(_4_#+kGp(5}C(ENn(n:Izd|Vcs/_a9rCsKrNb)q-'Z10?F1'5.+SG#SZ$M4Lt1unnoSAc&wB.Q3w0]NF0V?GTtg%E8VJKke7]5rJK^g3/+._KDi%EYRDu1B,1HV3{}%lb:`MM<P,K0>R@d1Gc>t^U(exI/0$?W]<`E*]OQmx)8cM+4%PPpf:3v^DFsZtD-/&z?jS|UI1g#PDV5HFE3#`F;%:|~;$]ifDYX9{(?J8Wn(]iIWM9gjOi^1+MI,*xt,b0Xn5|'V;hA;<N/Ir.tO@RdtCYN)I:1P%E/34:oW$/XEEzGaXaQpFg3#@Pki}Ih+$Bs$Fiu/49<z&Jk6>*B9JSc5>_%B3j2QEgCCJJ|.7zhI-Ly9)z5{?,*J2K|M314dbUxQ1LL*1NB87_F<#ZVE`zkK-}O<?i)Hyp@nA`TN{TUtwJA7iY6%N)NW5+u>LvH6A#L5ZcOhG3;{$sz~2/P%xW30pL9*YL<eHI55LHCR0{H9:$?f$0a3Af.wUfSm*OEA^Ifs}ZJoC.AA5/gszP$eJau*GC`,$%IR($R3<r=7*y7IEN=cPjzET/Z}&j#|AP1|4qT}B4w$0My2zs7vObNb2s53Gn.g3k>Yl3$W;ve~JAIk'$k@Ow{I`7BJn;bZZTI2QN&iTqdA@(AQs]&q0)7F#);vBXjM5%C;2H=KSWM{(n=vyUK<|vHS5Cb1XL>GK9GDv5m$5l@WjtqI5#Gf$c5$M6,.Pw8hU#oA$lk_(wwmXjy4DLBXgiiVoys,NMwY@&WEzy9C*u/S%7(EG<eIC%O9?#F8*2]OPC{,$m,]wqrD0w8LIXXt|)IO.8.uy?Aw0~:Jgao6MpWdLQBts$EE|j>to>4Dt.H@8~gxFOn5Qa;nLCopDK>T$#Nct~fJ8s'z<9g~T{%}'<50r=;W}0?VwmNmian]BVvAo8e}q20@Rn=$9<uBE+N)O6;G&3&m$1m9Ew?%4'X7&iaKre2#8M#b#G5iC#'ZAJ#+9{:peZ8WXYp]#bJ|c<H~%8?JFr>v,%A()#Y]}{?S1&$k/'{D3+)OP/:A-%Hg{''PO`?]O&v*MUk(<~am_G41Z+8w<q};O0a&FO-&6iLbgbgU$uBWQa):gaN},?3I7VZNTzp;I1oxtWIN2nG5$dBru#vb@E|J`xVH(p:8n:yS9}mUK{e=%E]#adEK5f<7WW~Y0py$YOP?=75-Ita41^G=7Uiy$vEWp>/]9NeB=c}5M&L{QNii<vF5?5ypWYLr>Ty({p&^wS;x}|YGz/U6EBE%5RmsYX36Sz$(Ozsx?)>P^oe%fhEhJJ~DrS.t139r1=qVukLsK?CW+(uS3UV^g/|z4y8//a~):pF*@6.w3Za+x:01+jpleHxF,@6{h~`wE1LC:7jvec$/Gq:1V.XQVK/$Z25$EN._IQ='FxkWEO%;-E?^pV,w:|u;k.2mrG,cp@%'/{&%9ca6_K=`bnB87y1|V3IA0w_4_*x|bx.Oi5ur6kPl:Vgvx&<Ib21$&3V&g/+6L;3<e%RB~N@FeWBY1zbBK/F_3nnKz~,3|b##<|+WINP_U|_csN-Qu-{N+z1a3#kF&W{xKp7smY8J,(HF+K.eTeOHH&*IF.I%Mta?HZ*fy+xI.9%7Bu'ir{F&IE^w>q*E6;EC{va(j.OR&}Mi^e@7#t;:_v*pwZqV7^TTrT3r'n*0`Psy8)UW5^]zHVN9l,QPh0hP|16|7`(V&qwb/GH~4@vSN=`5;eZu?165VR=b|LYtcW1366]#=-A4C%4?E,>YKIL+#X,rWrI14a%Si}t'Bkj='7D&+tD8ck4(ygtT2,_uJ?F6OB#tzC+C9FIz_h6rGQE4x1WnSF4VMCS|(&jZ&=W5Y:f=zd9CW:0B~@PZ,]BzZ^UV*#M9V>fu]VoOB]x2kUrIw&-%I#15>Fs'$M~88r#rKG%fQq8q)C(q7-nBFwIa<wND9sif:*@*PePN%ZqA9a&>L4)8HhP8M$2vA%DI<UPlIZ18/l/PLsxs,jY2mG$ySD'3g+iQQbyz3n2:m*3$22q9xea2;gPs>Ljl6oIL3QJsEILKIsbSP)ifygN%W;VyNt&ZK68XnfhBflRI;k={iqU/#y:(i=<{](9T^O7mlofp3Vrr8l}xHR+E`Z&BUlT4DoceU|#~x/@qZi]b@*&(9WF/4{,7v4'<4c:j-%.SDhUqwL0d^H1q;02&9/lP/qi6'24{3E;5$|H--{l{7jQIDd/rn|JZMuE127^n:mW5@+Dnrp4TvQh'NZDBA=XuY$Dr]L+vPvEXAw`K<zL'L*#s9GG:b3aJs-WNC;QNxamI0_C(GtL3t88(N=&J1R0do+#2<J=^>>7'HI:15lO|6/Ah*ddV5R^h0(^]hrur#M-3JQEx0D1+67JWx5O<}C1RAS<Zu9MzPtMggW@q5LBTH-V)'QmK/}aPs.`lW3($3cX#Gq}jIZNdvZDz,iJtX.D(0Z;w5^vOCSpp+(5.19/-CPX].bwIbCgkme)FYiE-Qbu5)3Q<w@p`]'EJ.|X>QbN`=dIQD1XiJU@eQ3).71~nJxl-:.)>JLR45.;i/&_T6Iz6]}lFr:C{Urro_T]EJG3^NKIv&Q5McfK&n@Cc?nnZV<KZ}ZCUndB(AI>xC5VXZcv#4zAoi'7f?k1jA]aWp^303V;JMR-yH.j%LGmgvJKRdG6TP`f9l`n.@E<?C{2JM$)I)6^G^A>EKi45R7gXl=.g(X&j:p%4+MjIe',}o$CRxU0bWU$9<909PLgG{%E%KC0M;PkHO'2A`x:<,,'*iH.l5cG;+~pR6T1YP;R6D.<Itf$h<%n*}#<dra7%e*p.Iye6F]0S4KdEs~7?1SU~0rfY4AuF]tTa##QUylCoA~1&M&X'J,$MSH?p(]u2BYVK?iCPY=ej7<Jo4]P+pSX|6='IK<Am0<#mME9gbmgGN5DaC/T|gEAxPwqPr5U&%E*(Q|'xGEGMj3KN}j4.Fou%3tLzOg%.I%EnZ,P$Q=qAr7@4<BJG3)pMg%Ww:C77K.lsLn$Z:L4-&2=P$DbA94_5kZFdCx=6%{1|)+pI=Vp</^,8,s-,CKuhFK8_X'QCW%.-`pwi^-=A#i}NT$e3]33@XL-*7um3(sw3>1]5Q_&{Q2m<Ri=fL,x|PWlv|b.Z7/pMbi*g,_PZ2-SOnFGZ<iY2Z0d@AA|~J~F;]K9&8-5_D0vaPu=TXkzR526u'oi4dx7y&dI^<6Fit(=`1<oe'6.`$sW8Dsjh8=2hYoy>5h]11s5J<K>z:@KU.3&VgX/^24aEG3/l58K{9kK*Uea&4>l,p?vVFT*53d*6J)&Y1l-%|t{JJ]1:<2L,k'7JDBrds1$]0m@8pgHjEa;b4y:V4r^q0M8(rm#0a=&g76R*h,Ee~G4QN>Fu76Y.$6/Bh_/eNFMQXn?2On|$16vJ3-j70|(&eF0f)YE7*I4]rUhb~2Ni&:_Ke:bx@lpQ#8ncc,O#(L:B.ad<Ed]`Bj#bbP?r@.|dQ2XHG<hl5$x<k.A6yA|#4}]Z6@Ob%feB{oR7/MRNuF=AMX>8|hc/QP%e}D2Z=.@$>)c.w`]%_0#k~%(O@$Si>:Tm<r6&IH..Hz6Ohk]:*A8]flWhP.RD^OzIsHC%LFz0Z-wD.-@oVtD(QFVlD0FEhf?1'-0enuD'BvDH(h>Tv]WJa->afW+%j0pf,g}r2scl'M%g,zULb<:d=|gY<6^TgB#f'S#x$gSN>D89Dx9w#vLdVA3J@1q-<A+?hXe.poBQ]h(Vkovl)s^e,Z?uvXRML^BxD8azOZ2-@n/DP*QA0FCS<6KN1P6Ca%gJ0$/+exh6(y-H*TKe&NJgA0LyXex)^uy#'%M>01;}=v0/mcLW),h4Kt&*gX^JA5EJ(Lecr@Ty?ccijxQ'e#38+6B|s.hV'dFSaPAN~nQOS;u5g.`HI{oD1JLvFmLxs6BNi]#J<K{br=5AKy%QilYufb2kK32@'%*-%9Iys*zx*tvUIFP~i9%Ej(&<=gV}G?6??_P?C=6ks%=Al]'U_CX75#*iwXQy$QMD:*n8_{gaR,nOIs]mwA0q'V4S%zgbOb4:ps8<t{JJSNq,kr?J-=Rlc<m-|VRIB&a9QHxKM-j5}Ss2r26]l(]7LxUQ/L*1D]aLr.MaA+=de5*=49Cl@R-`U)AV6mA)C?bS5DMy(Eti5++ey+6CrU{9K,P0*MY#Al;NPBlGxfrI7)Ue)'jJp&*{BC#wH:R_C*S:o<3)hJ8B+uYgfIu?1v,EqQMl62Bnl]TrPmVC?<jlq;DXl{+<sei53P^>8#.H&:9/ul33;%W/~(+wI:*z-#X01P:D5FH13D]P:)qmx>L'rE2PRc2pGSG1P30M/n5*.wOG2w_Hd:SzMw1RMtV8&a)|>.`XwJ|WHFNM)#ZIFH2I'SB6$oyZ1fD-|L9Hf$0Phd*.|?+g*?A/Z+A^p#P|}=2M|-n+OxL38*D-N38L<2p,mrqX9Drhs}UM<f512s2@AW<h'Y7N&0`/kr'R`dP^bc)H'(oj+?%28uE3Q|p.A>U}&BD%v1}q/Y0R8cw,,wzC&Hq<YmN~'nA%R*MN9Zmz#-k;s3'59*##}:|1_w+r?i;nTUJCTmIOvEb3'#q?Flg>I@X)E|-BPg2=8.)8-*k51mWp2@$ql9hPUU-YGPt|WPv0E36Q:y#Fmeq,4'DE5oFVy#1FPnZU.5y317(QI(;&@h-&Ryrl(z@z(3~=Bl3f~a(2FqZ1Lh$5P,LhQ}j+tc'0kMoj&V;eEy7TVzk%RJECAnErf>qiAV%Y>lKV.0PM*WW#joft0..d}XvnE>:j^ih1.^`f8i_y5j@5Ok8a*Bq2di4}3}5DHoN6sj-=]Vw@~_PtM$/U}>SVp|J>p.{yAe0{GmkDh;F{(tFiAkn)mdcY3m~ciP5|AK1lkmE'|u9$/%s~ZCfTlL.I2)`n_g3/#gF=4S3A6:'klfC:LW-j&9CdOoLYd2B9@z]Zx9^=9c3;yU=tg(4@(e;3@SVg3P}N,5'w-a.nV.*?^9SJ*8*IcrG?jYIO/L^t5+gM$qm?_Nm:gn1Xjo;`/]3j.k'YpSzY=E)+?6tkys.?R,JU=2D)DFObv7@4?tU&LclcHm#P)fAPE>2W(O|+?Y}@o1Y,B>='`5jUq#}.%W<-`M%'3G<U6kw^NNtu<JR$uCA(-N<Hp1Q{*d%C<C_<HQ&:=T<)L{Yf,dHg;W4OH.p)Dr;H]u'i&|8Z;CB&WGiTvb:u6)WCMvE7#%*d96k2Y`9yre@=S_f?9g4^`~-b]{9c]9Lac>ns9bAuZXI%-=9XO~m]75ZA9KQGs/ls+39EW^<i5kL-8VhrTF]eLh8:n,%4B?L*72={~Lz7O'%$95T^c5gL7#4uMy;]Nt6nfTMB@l4u6]5e-#]wgN6N6p2z_TD-$yNjEIH?_+5x^CjieK~U5*9U9Xhd=(4sD1Yu4upF4ZnLjv6&Ur3j,d_~%l;j3NZzN*r@h-3>*h]k=e1e37^q{I+ilR3'Fv5z(isp$XK}zQHn_<2xQ0zL+sac2qAHEte'&z$Vqfu+*iwU2T?Dr2D#nF2Q1C&pMAhb2Ev|fePUJ#2A*^I=T:ut27U/Vww*CC2({0jteNvT1xRr]c$ReC1j7DLs$TO;1g2M`<@wMK1`%v?4AD=n1Fc^L^]4>X1FI3B^iPVm1B'WM4x>hh$IzS$17wM{1*B1RJ4H=e0|}`ZT|&;U0HA]F(k5bm$>dh~c'b/D/p;:*R2N~o/f8LVe~ry)$;8m/r^a2l/R]1P@i<SI/A6MKEr%8i.qC#W)n6.D.N7e8:-d-q.156i3Cp8~.'`6^DH9FL-T*N&l#M}*-6<dWw/oK&#,2XN{2MwR,y^JK`i4?s,o*wk#@/my,Ihp<e:`~j,C](|]xLzf,5?9yC{<rO+u^tn-o(r)+`=lx;sY}`+T|?z0X%o1+20WAqz{zr*Z@3k*X-5q#d*M+<^Ywu#bs=A8WkMg)Z|+C&S_3&)5``$PY}ak)4?'f`#-P?(_DToPYr8T(PptH~&ny0(M;D'n6@v%(8&5cLvwZe(5,8h9}=C$(2)W='1y0~()y'?w;<Uf'j<'H@Ec^F'ds%MKB)VRQ^U}|^9hLSQET=Jh$v_mQ;78'Yzbqy']%D<F(v]]Q(?wuWzNfGPg2;#c4|c3PO'm+0{oozPD`q32rbuPP:a~bgO=6'P7d^]r)+S:'QslxH2w=8Oi(2NrWaWqOW`Dey0]f?OL>f=DbP0s'HGqI}^Lq&O(;?Q*FGs}NvP+zcI:;fNn'T;Tz&4{Nd,w0k2wU0Nbl/<)&(.uN^S~v_-5wq'AqePz)Zd5MV_I$<_DsF'4_*j:(,n+'0.=G{abZ_LG3k^~iOpWL,dt8#>hxCKZM91InBb*KNEQ0(Ip<TK82haHxi<(Jv;B@I0qTYJJEhl@d1<0J>y>kz<todIsSsMfir&]IifxJ79wWqIeBptiA;}oIUZF->yOqIITgsO%1{RhIGjte>4GTRI5]kUu7*z5I(F}s=bH&jHnsIf5eOzJHaC8{ghS]sHF8L2EnJ?BHC?_T1p6<#H*_#7@Y`C/&c?6c~?_`yGu1@,+TlIGGtUiGwG^6rGYrAvg;zcCGQuhqCtRaXG<a:n0;6]-G/2LI5/wO0G-]/u]K}:(Fwl)d@~8CfFt.y}@{@*|FWP@tG04pZFR%0NHWNwW&StC?r?<@^&S^:O'R(RSF?C;b6QzIpF6IoxQiIF8Ey|M(8~BE:Ew?3%a]G?rEoO>TvD$s6Dh&4&fqIj}D^=q`)CMWADZFco$E-yeD/NA}af9XKD,OzC?/;hoD(Pf/oij$]C|:l->{L&YCW3iS|_4*9CPz(xBy|aMCEl8(48d{kCC5<Rsnf6fC9KflD/0=(C3sG,C9G]4BhPZ9>}d-FBAT5(5#uk$AvmfSWbSwD&)dF/x929dAfZ1UkvjjAAMo&6w9{k~ACr{]mB*.:A8Ncxl]0;q@K==H;XoKF@GdAoXLldB@?ME7;K+l1@#O~p_=U2~#<qcBhhVW6?_If&-$rOs?QmT2IC&/R?/V%d}dO.M>c%}Z~7k+g>^J#]FbZ=?>00bnPldC8=ry`QEeM<-=L$pj&Qgh0"
end PySem.W.Fast
open PySem PySem.W PyProof.Rows
set_option maxRecDepth 100000 in
set_option maxHeartbeats 0 in
theorem PySem.Challenge.cw_floorfits_k95_whole_again_holds : PySem.Challenge.rw_floorfits_k95_whole_again.Holds := by
 w_on;o_law;k_head;(case hw=>w_witness2)
 k_fill
 refine M95.walk (l:=PySem.Challenge.rw_floorfits_k95_whole_again) rfl rfl (fun w h Y=>PySem.W.kIn_of Y) ?F
 case F=>
  intro w mg fa h d G b;refine' M95.all_mk d G b ?nyWays ?pgWays ?hdWays ?poWays ?saWays ?mkWays ?kpWays ?naWaystiles ?naWaysground ?naWayssize ?naWaysis_round ?naWaysknown ?nyPainter ?pgPainter ?hdPainter ?poPainter ?saPainter ?mkPainter ?kpPainter ?naPaintertiles ?naPainternow ?naPainterbefore ?naPainterafter ?a33 ?i33 ?l33 ?c33 ?k33 ?dk33 ?a81 ?l81 ?c81 ?k81 ?z1 ?z2 ?z3 ?z4 ?z5 ?z6 ?z7 ?z8 ?z9 ?z10 ?z11 ?z12 ?z13 ?z14 ?gl1 ?gl2 ?gl3 ?gl4 ?gl5 ?gl6 ?gl7 ?gl8 ?gl9 ?n0 ?x0 ?n1 ?x1 ?n2 ?x2 ?n3 ?x3 ?n4 ?x4 ?n5 ?x5 ?lk1 ?mr1 ?ga1 ?gt1 ?cc1 ?lk2 ?mr2 ?ga2 ?gt2 ?cc2 ?lk3 ?mr3 ?ga3 ?gt3 ?cc3 ?lk4 ?mr4 ?ga4 ?gt4 ?cc4 ?lk5 ?mr5 ?ga5 ?gt5 ?cc5 ?nd ?_ ?_ ?_ ?_ ?_ ?_ ?_ ?_ ?_ ?_ ?_ ?_ ?_ ?_ ?_ ?_ ?_ ?_ ?_ ?_ ?_ ?_ ?_ ?_ ?_ ?_ ?_ ?_ ?_ ?_ ?_ ?_ ?_ ?_ ?_ ?_ ?_ ?_ ?_ ?_ ?_ ?_ ?_ ?_ ?_ ?_ ?_ ?_ ?_ ?_ ?_ ?_ ?_ ?_ ?_ ?_ ?_ ?_ ?_ ?_ ?_ ?_ ?_ ?_ ?_ ?_ ?_ ?_ ?_ ?_ ?_ ?_ ?_ ?_ ?_ ?_ ?_ ?_ ?_
  (case nyWays=>k_is);(case pgWays=>k_is);(case hdWays=>k_is);(case poWays=>k_is)
  (case saWays=>k_is);(case mkWays=>k_is);(case kpWays=>k_is);(case naWaystiles=>k_is)
  (case naWaysground=>k_is);(case naWayssize=>k_is);(case naWaysis_round=>k_is);(case naWaysknown=>k_is)
  (case nyPainter=>k_is);(case pgPainter=>k_is);(case hdPainter=>k_is);(case poPainter=>k_is)
  (case saPainter=>k_is);(case mkPainter=>k_is);(case kpPainter=>k_is);(case naPaintertiles=>k_is)
  (case naPainternow=>k_is);(case naPainterbefore=>k_is);(case naPainterafter=>k_is);(case a33=>k_is)
  (case i33=>k_is);(case l33=>k_is);(case c33=>k_is);(case k33=>k_is)
  (case dk33=>k_is);(case a81=>k_is);(case l81=>k_is);(case c81=>k_is)
  (case k81=>k_is);(case z1=>k_is);(case z2=>k_is);(case z3=>k_is)
  (case z4=>k_is);(case z5=>k_is);(case z6=>k_is);(case z7=>k_is)
  (case z8=>k_is);(case z9=>k_is);(case z10=>k_is);(case z11=>k_is)
  (case z12=>k_is);(case z13=>k_is);(case z14=>k_is);(case gl1=>k_is)
  (case gl2=>k_is);(case gl3=>k_is);(case gl4=>k_is);(case gl5=>k_is)
  (case gl6=>k_is);(case gl7=>k_is);(case gl8=>k_is);(case gl9=>k_is)
  (case n0=>k_is);(case x0=>k_exc);(case n1=>k_is);(case x1=>k_exc)
  (case n2=>k_is);(case x2=>k_exc);(case n3=>k_is);(case x3=>k_exc)
  (case n4=>k_is);(case x4=>k_exc);(case n5=>k_is);(case x5=>k_exc)
  (case lk1=>k_is);(case mr1=>with_unfolding_all rfl);(case ga1=>k_is);(case gt1=>k_is)
  (case cc1=>k_is);(case lk2=>k_is);(case mr2=>with_unfolding_all rfl);(case ga2=>k_is)
  (case gt2=>k_is);(case cc2=>k_is);(case lk3=>k_is);(case mr3=>with_unfolding_all rfl)
  (case ga3=>k_is);(case gt3=>k_is);(case cc3=>k_is);(case lk4=>k_is)
  (case mr4=>with_unfolding_all rfl);(case ga4=>k_is);(case gt4=>k_is);(case cc4=>k_is)
  (case lk5=>k_is);(case mr5=>with_unfolding_all rfl);(case ga5=>k_is);(case gt5=>k_is)
  (case cc5=>k_is);(case nd=>decide)
  all_goals ((first|refine' M95.gm ?a ?l ?c ?k ?i|refine' M95.mm ?a ?l ?c ?k ?i);(case a=>k_is);(case l=>k_is);(case c=>k_is);(case k=>k_is);(case i=>k_is))
#print axioms PySem.Challenge.cw_floorfits_k95_whole_again_holds
end
