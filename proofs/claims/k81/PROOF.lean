import PyProof.Rows.All
import Wide.All
import OpenK.AllK
import Wide.FinOn
import Lean
import PyProof.EqAt
import PyProof.EqKinds
import PyProof.TupleCall
import PySem.SetTable
import PyProof.TupleKey
import Wide.Seal
import PyProof.DictRoadsH
import PyProof.Rows.TupTab
import PyProof.Draws
import PyProof.EnumMake
import OpenK.KRaise
import OpenK.KOwn
import PyProof.Rows.TopTwo
import PyProof.RulesAs
import PyProof.RulesDel
import PyProof.ExcArgsOwn
import PyProof.ExcAttrAll.ValueError
import PyProof.Rows.CountFlat
import PyProof.SumWalk
import PyProof.Rows.SeqCalls
import PyProof.ZipIter
import KE.KRevIter
import PyProof.CollectIter
import PyProof.TupleOfGen
import PyProof.ListRange
import PyProof.WalkInts
import PyProof.AttrMissHeap
import KE.KDictOf
import PyProof.Rows.TupDisplay
import KE.KSortTup
import KE.KItemsList
import PySem.Challenge.RW_floorfits_k81_whole_tallies
set_option Elab.async false
set_option linter.all false
set_option maxRecDepth 100000
set_option maxHeartbeats 4000000
abbrev Z1:=Nat->Nat->Option Int
abbrev Z2:=List (List Int)
abbrev Z3:=List (PySem.Addr×PySem.Obj)
abbrev Z4:=List (Option Int)
abbrev Z5:=PySem.Value->PySem.Shared->Prop
abbrev Z6:=PySem.Str->Option PySem.Value
def yaa:=@PySem.wpAny_bind
def yab:=@Bool.and_eq_true
def yac:=@PySem.wpAny_pure
def yad:=@List.getElem?_eq_getElem
def yae:=@PySem.Heap.get?_push_of_some
def yaf:=@List.length_map
def yag:=@List.size_toArray
def yah:=@Nat.le_refl
def yai:=@List.getD_eq_getElem?_getD
def yaj:=@of_decide_eq_true
def yak:=@PySem.Heap.get?_push_size
def yal:=@Nat.lt_of_lt_of_le
def yam:=@List.getElem?_eq_some_iff
def yan:=@PySem.Heap.lt_size
def yao:=@List.mem_map
def yap:=@List.length_cons
def yaq:=@Nat.le_trans
def yar:=@Nat.ne_of_lt
def yas:=@List.getElem?_map
def yat:=@List.mem_cons
def yau:=@List.map_cons
def yav:=@List.length_append
def yaw:=@List.mem_cons_of_mem
def yax:=@Bool.false_eq_true
def yay:=@decide_eq_true_eq
def yaz:=@List.getElem?_append_right
def yaA:=@List.lookup_cons
def yaB:=@Array.length_toList
def yaC:=@Option.some_ne_none
def yaD:=@List.mem_cons_self
def yaE:=@decide_eq_false
def yaF:=@List.mem_append_right
def yaG:=@List.append_nil
def yaH:=@decide_eq_true
def yaI:=@List.length_set
def yaJ:=@List.mem_singleton
def yaK:=@PySem.mem_of_lookup
def yaL:=@Nat.zero_le
def yaM:=@List.getElem?_set_self
def yaN:=@List.length_take
def yaO:=@List.map_congr_left
def yaP:=@List.getElem?_append_left
def yaQ:=@List.getElem?_eq_none
def yaR:=@PySem.wpAny_newObj_type
def yaS:=@PySem.wpAny_call_entry
def yaT:=@List.map_map
def yaU:=@Bool.false_ne_true
def yaV:=@List.length_replicate
def yaW:=@PySem.wpAny_holding
def yaX:=@PyProof.Rows.slot_tuple_getitem
def yaY:=@PySem.builtinLookup_eq_fast
def yaZ:=@beq_eq_false_iff_ne
def ya0:=@Nat.lt_succ_of_lt
def ya1:=@Array.getElem?_eq_getElem
def ya2:=@List.getElem?_set_ne
def ya3:=@List.mem_of_getElem?
def ya4:=@Nat.lt_irrefl
def ya5:=@PySem.W.mg_none_of
def ya6:=@PyProof.Rows.callWith_type1
def ya7:=@List.not_mem_nil
def ya8:=@PySem.Around.under_plainId
def ya9:=@PySem.W.kia_one
def yba:=@List.getElem_mem
def ybb:=@List.eq_nil_of_length_eq_zero
def ybc:=@List.filterMap_cons
def ybd:=@PySem.wpAny_truthy_bool
def ybe:=@Array.getElem?_toList
def ybf:=@List.length_filter_le
def ybg:=@PySem.wpAny_callSpecial?_slot
def ybh:=@List.find?_cons
def ybi:=@PySem.wpAny_of_eq
def ybj:=@Nat.ne_of_gt
def ybk:=@List.all_eq_true
def ybl:=@List.replicate_succ
def ybm:=@if_false
def ybn:=@PySem.isSubtype_type
def ybo:=@List.mem_append
def ybp:=@List.nodup_cons
def ybq:=@PySem.Heap.get?_update_self
def ybr:=@PySem.typeLookup_type
def ybs:=@PySem.codeAny_builtin
def ybt:=@List.getElem?_drop
def ybu:=@Nat.le_succ
def ybv:=@List.getElem?_of_mem
def ybw:=@PyProof.Rows.F.plain_set_update_loop
def ybx:=@PySem.wpAny_mono
def yby:=@List.ext_getElem?
def ybz:=@Int.toNat_natCast
def ybA:=@Bool.not_eq_true'
def ybB:=@PySem.sizeLine_eq
def ybC:=@PySem.wpAny_specialOf
def ybD:=@beq_self_eq_true
def ybE:=@PySem.wpAny_isInstance
def ybF:=@PySem.Calls.spliced_cons
def ybG:=@PySem.wpAny_Call_Name_kw
def ybH:=@PySem.wpAny_typeOf
def ybI:=@List.all_cons
def ybJ:=@PySem.Obj.data_mapFields
def ybK:=@List.mem_range
def ybL:=@PySem.Heap.size_push
def ybM:=@List.flatten_cons
def ybN:=@List.append_assoc
def ybO:=@List.Pairwise.imp_of_mem
def ybP:=@List.map_append
def ybQ:=@List.getElem?_replicate
def ybR:=@PySem.wpAny_field
def ybS:=@PySem.F.plainAttrs_list
def ybT:=@decide_eq_false_iff_not
def ybU:=@Nat.lt_succ_self
def ybV:=@List.countP_cons
def ybW:=@List.filter_cons
def ybX:=@decide_eq_decide
def ybY:=@Nat.mul_le_mul
def ybZ:=@PySem.Heap.get?_update_other
def yb0:=@PySem.Calls.callWith_builtin
def yb1:=@Array.getElem?_eq_none
def yb2:=@List.mem_filterMap
def yb3:=@List.mem_filter
def yb4:=@if_true
def yb5:=@PySem.F.slot_int_rmul
def yb6:=@Bool.eq_iff_iff
def yb7:=@PySem.F.slot_dict_get
def yb8:=@List.getElem?_reverse
def yb9:=@List.range_succ
def yca:=@PySem.F.called_set
def ycb:=@PySem.wpAny_pyIter_list
def ycc:=@PySem.call_meets
def ycd:=@Bool.not_true
def yce:=@PySem.plainId_quiet
def ycf:=@List.pairwise_map
def ycg:=@PySem.wpAny_binaryOp_repeat_ref
def ych:=@PyProof.Rows.F.entry_set_update_loop
def yci:=@List.pairwise_iff_getElem
def ycj:=@PySem.Calls.call_function_entry
def yck:=@List.length_drop
def ycl:=@List.mem_flatMap
def ycm:=@List.isEmpty_iff
def ycn:=@List.length_reverse
def yco:=@PySem.wpAny_rule
def ycp:=@Option.isSome_iff_exists
def ycq:=@PySem.F.args_tuple_add_2
def ycr:=@PySem.F.slot_list_getattribute
def ycs:=@PySem.wpAny_passesOwn
def yct:=@PySem.F.entry_tuple_add
def ycu:=@PySem.wpAny_ite_split
def ycv:=@PySem.F.plainAttrs_dict
def ycw:=@Bool.or_eq_true
def ycx:=@PySem.wpAny_attempt
def ycy:=@PySem.W.mg_of
def ycz:=@Int.eq_ofNat_of_zero_le
def ycA:=@Int.emod_nonneg
def ycB:=@Int.emod_lt_of_pos
def ycC:=@List.sum_cons
def ycD:=@List.filterMap_nil
def ycE:=@PySem.F.slot_tuple_add
def ycF:=@PyProof.Rows.subscriptTail_builtinR
def ycG:=@PySem.Calls.spliced_nil
def ycH:=@List.reverse_cons
def ycI:=@List.length_range
def ycJ:=@List.filter_congr
def ycK:=@PySem.wpAny_seqItems
def ycL:=@or_false
def ycM:=@Nat.le_of_lt
def ycN:=@PySem.codeAny_mono
def ycO:=@PySem.F.slot_tuple_mul
def ycP:=@List.any_eq_true
def ycQ:=@PySem.entryFor_of_tree
def ycR:=@List.mem_append_left
def ycS:=@PySem.Calls.evalArgs_plain
def ycT:=@List.mem_iff_getElem
def ycU:=@PySem.signature?_of
def ycV:=@PySem.wpAny_newList
def ycW:=@beq_iff_eq
def ycX:=@PySem.typeIs_int
def ycY:=@PySem.W.plainGet_of
def ycZ:=@List.foldl_cons
def yc0:=@Option.map_some
def yc1:=@Nat.min_eq_left
def yc2:=@beq_false_of_ne
def yc3:=@List.flatMap_append
def yc4:=@PyProof.Rows.assignInOrder_cons
def yc5:=@Nat.le_of_eq
def yc6:=@List.getElem?_take
def yc7:=@PySem.wpAny_tupleItemsOf
def yc8:=@Array.forIn_toList
def yc9:=@Nat.lt_trans
def yda:=@PySem.W.callWith_K
def ydb:=@PySem.wpAny_setField_rec
def ydc:=@Nat.sub_self
def ydd:=@Nat.lt_or_ge
def yde:=@List.countP_append
def ydf:=@PySem.Value.isInt_shape
def ydg:=@PySem.F.args_int_rmul_2
def ydh:=@Nat.le_of_succ_le
def ydi:=@PySem.wpAny_Call_method
def ydj:=@PySem.wpAny_pyIter_slot
def ydk:=@List.flatMap_cons
def ydl:=@PySem.wpAny_standAt
def ydm:=@List.any_cons
def ydn:=@PyProof.Rows.listUpdate_at
def S2.bdI{c k:Nat}(h:c<=k)(hk:k<=1000000):-1000000<=(c:Int)/\(c:Int)<=1000000:=⟨Int.le_trans (by decide) (Int.natCast_nonneg c),Int.ofNat_le.mpr (yaq h hk)⟩
def S2.bdN{c k:Nat}(h:c<=k)(hk:k<=1000000):0<=(c:Int)/\(c:Int)<=1000000:=⟨Int.natCast_nonneg c,Int.ofNat_le.mpr (yaq h hk)⟩
local macro_rules | `(tactic| omega) => `(tactic| first | assumption | exact yaq (by assumption) (by decide) | exact yal (by assumption) (by assumption) | exact yal (by assumption) (by decide) | exact ycM (by assumption) | exact S2.bdI (by assumption) (by decide) | exact yaq (by assumption) (by assumption) | omega +splitDisjunctions)
namespace L2
open PySem PySem.Spec PyProof.Rows
noncomputable abbrev Key:=Sum Int Str
noncomputable def zhf:Key->Value->Bool
 | .inl k,v=>Value.isInt k v
 | .inr x,v=>Value.isStrOf x v
noncomputable def zxY(w:World):Key->Int
 | .inl k=>hashInt k
 | .inr x=>hashStr w x
theorem zay:∀{k:Key} {v:Value},zhf k v=true->(∃i t,k=Sum.inl i/\v=Value.int i t)\/(∃x t,k=Sum.inr x/\v=Value.str x t)
 | .inl i,v,h=>by
  obtain ⟨t,e⟩:=ydf (k:=i) (v:=v) h;exact .inl ⟨i,t,rfl,e⟩
 | .inr x,v,h=>by
  obtain ⟨t,e⟩:=Value.isStrOf_shape (x:=x) (v:=v) h;exact .inr ⟨x,t,rfl,e⟩
def zke(i:Int)(t:Tok):zhf (.inl i) (.int i t)=true:=by simp [zhf,Value.isInt]
def zkd(x:Str)(t:Tok):zhf (.inr x) (.str x t)=true:=by simp [zhf,Value.isStrOf]
def zrE(a b:Int):decide ((Sum.inl a:Key)=Sum.inl b)=(a == b):=by
 by_cases e:a=b
 ·subst e;simp
 ·have h:¬ (Sum.inl a:Key)=Sum.inl b:=fun q=>e (Sum.inl.inj q)
  rw [yaE h];exact (yaZ.mpr e).symm
def zrB(a b:Str):decide ((Sum.inr a:Key)=Sum.inr b)=decide (a=b):=by
 by_cases e:a=b
 ·subst e;simp
 ·have h:¬ (Sum.inr a:Key)=Sum.inr b:=fun q=>e (Sum.inr.inj q)
  rw [yaE h,yaE e]
def zrD(a:Int)(b:Str):decide ((Sum.inl a:Key)=Sum.inr b)=false:=yaE (fun q=>nomatch q)
def zrC(a:Str)(b:Int):decide ((Sum.inr a:Key)=Sum.inl b)=false:=yaE (fun q=>nomatch q)
noncomputable def zaS(prog:Program)(w:World):PySem.KeyKind prog w Key where
 is:=zhf
 hash:=zxY w
 inj:=fun v a b ha hb=>by
  rcases zay ha with ⟨i,t,rfl,rfl⟩ | ⟨x,t,rfl,rfl⟩
  ·rcases zay hb with ⟨j,u,rfl,e⟩ | ⟨y,u,rfl,e⟩
   ·injection e with e1 _;rw [e1]
   ·exact nomatch e
  ·rcases zay hb with ⟨j,u,rfl,e⟩ | ⟨y,u,rfl,e⟩
   ·exact nomatch e
   ·injection e with e1 _;rw [e1]
 byValue:=fun k v h=>by
  rcases zay h with ⟨i,t,rfl,rfl⟩ | ⟨x,t,rfl,rfl⟩<;>rfl
 pyHash:=fun hv h=>by
  rcases zay hv with ⟨i,t,rfl,rfl⟩ | ⟨x,t,rfl,rfl⟩
  ·exact wpAny_pyHash_int h
  ·exact wpAny_pyHash_str h
 eqBool:=fun hu hv h=>by
  rcases zay hu with ⟨i,t,rfl,rfl⟩ | ⟨x,t,rfl,rfl⟩
  ·rcases zay hv with ⟨j,u,rfl,rfl⟩ | ⟨y,u,rfl,rfl⟩
   ·rw [zrE] at h;exact wpAny_eqBool_int h
   ·rw [zrD] at h;exact SeqAt.EqAt.int_str i t y u _ _ _ _ h
  ·rcases zay hv with ⟨j,u,rfl,rfl⟩ | ⟨y,u,rfl,rfl⟩
   ·rw [zrC] at h;exact SeqAt.EqAt.str_int x t j u _ _ _ _ h
   ·rw [zrB] at h;exact wpAny_eqBool_str h
 «strs»:=fun k x t v h=>by
  rcases zay h with ⟨i,u,rfl,e⟩ | ⟨y,u,rfl,e⟩
  ·exact nomatch e
  ·injection e with e1 _
   subst e1
   cases v<;>rfl
def zhc(prog:Program)(w:World)(i:Int)(t:Tok):(zaS prog w).is (.inl i) (.int i t)=true:=zke i t
def zhb(prog:Program)(w:World)(x:Str)(t:Tok):(zaS prog w).is (.inr x) (.str x t)=true:=zkd x t
end L2
namespace L2
open PySem PySem.Spec PyProof.Rows
inductive V where
 | non | bl (b:Bool) | int (i:Int) | str (x:Str) | byt (b:Array UInt8) | flt (b:UInt64) | ref (a:Addr) | ty (n:String)
 deriving DecidableEq
noncomputable def zaE:V->Value->Prop
 | .non,u=>u=Value.none
 | .bl b,u=>u=Value.bool b
 | .int i,u=>∃t,u=Value.int i t
 | .str x,u=>∃t,u=Value.str x t
 | .byt b,u=>∃t,u=Value.bytes b t
 | .flt b,u=>∃t,u=Value.float b t
 | .ref a,u=>u=Value.ref a
 | .ty n,u=>u=Value.type n
noncomputable abbrev Vals:List V->List Value->Prop:=Paired zaE
theorem Vals.length{xs:List V}{us:List Value}(r:Vals xs us):xs.length=us.length:=Paired.length r
theorem Vals.get:∀{xs:List V} {us:List Value} {i:Nat} {x:V},Vals xs us->xs[i]?=some x->∃u,us[i]?=some u/\zaE x u
 | _,_,_,_,.nil,e=>by simp at e
 | _,_,0,_,.cons r _,e=>by simp at e;subst e;exact ⟨_,rfl,r⟩
 | _,_,i+1,x,.cons _ t,e=>by
  obtain ⟨u,h1,h2⟩:=Vals.get (i:=i) (x:=x) t (by simpa using e);exact ⟨u,by simpa using h1,h2⟩
theorem Vals.set{x:V}{u:Value}(r:zaE x u):∀{xs:List V} {us:List Value} (i:Nat),Vals xs us->Vals (xs.set i x) (us.set i u)
 | _,_,_,.nil=>.nil
 | _,_,0,.cons _ t=>.cons r t
 | _,_,i+1,.cons q t=>.cons q (Vals.set r i t)
theorem Vals.append:∀{xs ys:List V} {us ws:List Value},Vals xs us->Vals ys ws->Vals (xs++ys) (us++ws)
 | _,_,_,_,.nil,s=>s
 | _,_,_,_,.cons r t,s=>.cons r (Vals.append t s)
theorem Vals.take:∀{xs:List V} {us:List Value} (n:Nat),Vals xs us->Vals (xs.take n) (us.take n)
 | _,_,0,_=>.nil
 | _,_,_+1,.nil=>.nil
 | _,_,n+1,.cons r t=>.cons r (Vals.take n t)
theorem Vals.drop:∀{xs:List V} {us:List Value} (n:Nat),Vals xs us->Vals (xs.drop n) (us.drop n)
 | _,_,0,r=>r
 | _,_,_+1,.nil=>.nil
 | _,_,n+1,.cons _ t=>Vals.drop n t
noncomputable def zgP:Option V->Option Value->Prop
 | some v,some u=>zaE v u
 | none,none=>True
 | _,_=>False
noncomputable def KV{κ:Type}:List (κ×V)->List (κ×Value)->Prop:=Paired fun (p:κ×V) (q:κ×Value)=>p.1=q.1/\zaE p.2 q.2
noncomputable def kV:Key->V
 | .inl i=>.int i
 | .inr x=>.str x
inductive HO where
 | lst (xs:List V)
 | tup (xs:List V)
 | dK (kvs:List (Key×V)) | dT (kvs:List (List Key×V))
 | set (S:Int->Bool) (n:Nat)
 | ins (C dx:Addr) (fs:List (Str×V))
 | own (x:Addr)
 | xd (fs:List (Str×V))
 | met (f x:Addr)
 | rng (lo hi:Int)
 | frz (o:Obj) (u:HO)
 | tbl (ps:Array Value)
 | ext (φ:Heap->Prop)
noncomputable abbrev Hp:=Addr->Option HO
noncomputable def upd(H:Hp)(a:Addr)(o:HO):Hp:=fun b=>if b=a then some o else H b
def zam{H:Hp}{a:Addr}{o:HO}:upd H a o a=some o:=by unfold upd;rw [if_pos rfl]
def zag{H:Hp}{a b:Addr}{o:HO}(h:b≠a):upd H a o b=H b:=by unfold upd;rw [if_neg h]
def zrs{H:Hp}{a b:Addr}{o u:HO}(h:H a=some o)(h':H b=some u)(d:o≠u):a≠b:=by
 intro e;subst e;rw [h] at h';exact d (Option.some.inj h')
def zai{H:Hp}{a b:Addr}{o:HO}(h:H a=some o)(h':H b=none):a≠b:=by
 intro e;subst e;rw [h] at h';cases h'
section
variable(P:Program)(w:World)
noncomputable def za3(H:Hp)(h:Heap)(a:Addr):HO->Prop
 | .lst xs=>xs.length<=sizeLine/\∃(its:List Value) (n:Nat),Vals xs its/\h.get? a=some { cls:=.type "list",data:=.seq its.toArray n }
 | .tup xs=>xs.length<=sizeLine/\∃its:List Value,Vals xs its/\IsTup h a its.toArray
 | .dK kvs=>kvs.length<=sizeLine/\(a == sysModules)=false/\∃vs,KV kvs vs/\h.DictOf (zaS P w) a vs
 | .dT kvs=>kvs.length<=sizeLine/\(a == sysModules)=false/\∃xs:List (List Key×Addr×Value),
   Paired (fun (p:List Key×V) (q:List Key×Addr×Value)=>p.1=q.1/\H q.2.1=some (.tup (p.1.map kV))/\zaE p.2 q.2.2) kvs xs ∧
   ∃o es ep,h.get? a=some o/\o.ExactDict/\o.data=.dict es ep/\es.toList=xs.map (entryOfKey (tupleKind (zaS P w)))/\(xs.map (·.1)).Nodup
 | .set S n=>h.SetOf (intKind P w) a S n
 | .ins C dx fs=>H dx=some (.own a)/\fs.length<=1000/\dx≠a/\h.get? a=some (PySem.W.instObj C dx) ∧
   ∃mA,h.Ns1 dx mA/\(∀f,zgP (fs.lookup f) (mA f))/\PySem.Within mA (fs.map (·.1))
 | .own _=>∃o,h.get? a=some o
 | .xd fs=>∃mA,h.Ns1 a mA/\∀f,zgP (fs.lookup f) (mA f)
 | .rng lo hi=>∃t u v,h.get? a=some { cls:=.type "range",data:=.fields #[.int lo t,.int hi u,.int 1 v] }
 | .frz o u=>h.get? a=some o/\za3 H h a u
 | .tbl ps=>h.get? a=some { cls:=.none,data:=.fields ps }
 | .met f x=>h.get? a=some (PySem.W.methodObj (.ref f) (.ref x))
 | .ext φ=>φ h/\(∃o,h.get? a=some o)/\∀h1 h2:Heap,φ h1->(∀o,h1.get? a=some o->h2.get? a=some o)->φ h2
noncomputable def HOk(H:Hp)(h:Heap):Prop:=∀a o,H a=some o->za3 P w H h a o
end
section
variable{P:Program}{w:World}{H H':Hp}{h h':Heap}{a:Addr}{o:HO}
theorem za3.lt(x:za3 P w H h a o):a<h.objs.size:=by
 cases o with
 | lst xs=>obtain ⟨_,_,_,_,e⟩:=x;exact yan e
 | tup xs=>obtain ⟨_,_,_,p⟩:=x;exact p.lt
 | dK kvs=>obtain ⟨_,_,_,_,o,_,_,e,_⟩:=x;exact yan e
 | dT kvs=>obtain ⟨_,_,_,_,o,_,_,e,_⟩:=x;exact yan e
 | set S n=>obtain ⟨o,_,_,_,e,_⟩:=x;exact yan e
 | ins C dx fs=>obtain ⟨_,_,_,e,_⟩:=x;exact yan e
 | own y=>obtain ⟨_,e⟩:=x;exact yan e
 | xd fs=>obtain ⟨_,⟨_,_,_,e,_⟩,_⟩:=x;exact yan e
 | rng lo hi=>obtain ⟨_,_,_,e⟩:=x;exact yan e
 | frz ob u=>obtain ⟨e,_⟩:=x;exact yan e
 | tbl ps=>exact yan (show h.get? a=some _ from x)
 | met f y=>exact yan (show h.get? a=some _ from x)
 | ext φ=>obtain ⟨_,⟨_,e⟩,_⟩:=x;exact yan e
theorem Paired.mapP{α β:Type}{F G:α->β->Prop}:∀{l₁:List α} {l₂:List β},Paired F l₁ l₂->(∀a b,F a b->G a b)->Paired G l₁ l₂
 | _,_,.nil,_=>.nil
 | _,_,.cons r t,f=>.cons (f _ _ r) (Paired.mapP t f)
def za3.stay(x:za3 P w H h a o)(k:∀b u,(b=a\/H b=some (.own a))->h.get? b=some u->h'.get? b=some u)
  (ho:∀b,H b=some (.own a)->H' b=some (.own a)) (ht:∀b xs,H b=some (.tup xs)->H' b=some (.tup xs)):za3 P w H' h' a o:=by
 induction o with
 | lst xs=>obtain ⟨z,its,n,r,e⟩:=x;exact ⟨z,its,n,r,k _ _ (.inl rfl) e⟩
 | tup xs=>obtain ⟨z,its,r,ob,e,c⟩:=x;exact ⟨z,its,r,ob,k _ _ (.inl rfl) e,c⟩
 | dK kvs=>obtain ⟨z,y,vs,r,ob,es,ep,e,c⟩:=x;exact ⟨z,y,vs,r,ob,es,ep,k _ _ (.inl rfl) e,c⟩
 | dT kvs =>
  obtain ⟨z,y,xs,r,ob,es,ep,e,c⟩:=x;exact ⟨z,y,xs,Paired.mapP r fun p q z=>⟨z.1,ht _ _ z.2.1,z.2.2⟩,ob,es,ep,k _ _ (.inl rfl) e,c⟩
 | set S n=>obtain ⟨ob,es,ep,t,e,c⟩:=x;exact ⟨ob,es,ep,t,k _ _ (.inl rfl) e,c⟩
 | ins C dx fs =>
  obtain ⟨d,z,ne,e,mA,⟨od,es,ep,e2,c⟩,r⟩:=x;exact ⟨ho _ d,z,ne,k _ _ (.inl rfl) e,mA,⟨od,es,ep,k _ _ (.inr d) e2,c⟩,r⟩
 | own y=>obtain ⟨ob,e⟩:=x;exact ⟨ob,k _ _ (.inl rfl) e⟩
 | xd fs=>obtain ⟨mA,⟨od,es,ep,e,c⟩,r⟩:=x;exact ⟨mA,⟨od,es,ep,k _ _ (.inl rfl) e,c⟩,r⟩
 | rng lo hi=>obtain ⟨t,u,v,e⟩:=x;exact ⟨t,u,v,k _ _ (.inl rfl) e⟩
 | frz ob u ih=>obtain ⟨e,q⟩:=x;exact ⟨k _ _ (.inl rfl) e,ih q⟩
 | tbl ps =>
  have e:h.get? a=some { cls:=.none,data:=.fields ps }:=x;show h'.get? a=some { cls:=.none,data:=.fields ps };exact k a _ (.inl rfl) e
 | met f y =>
  have e:h.get? a=some (PySem.W.methodObj (.ref f) (.ref y)):=x;show h'.get? a=some (PySem.W.methodObj (.ref f) (.ref y));exact k a _ (.inl rfl) e
 | ext φ=>obtain ⟨p,⟨o,e⟩,st⟩:=x;exact ⟨st _ _ p fun o q=>k _ _ (.inl rfl) q,⟨o,k _ _ (.inl rfl) e⟩,st⟩
theorem HOk.lt(x:HOk P w H h)(e:H a=some o):a<h.objs.size:=(x a o e).lt
def HOk.fresh(x:HOk P w H h)(e:h.objs.size<=a):H a=none:=by
 cases q:H a with
 | none=>rfl
 | some u=>exact absurd (yal (x.lt q) e) (ya4 _)
def HOk.kept(x:HOk P w H h)(k:∀b u,h.get? b=some u->h'.get? b=some u):HOk P w H h':=fun a o e =>
 (x a o e).stay (fun b u _ q=>k b u q) (fun _ q=>q) fun _ _ q=>q
def HOk.laid(x:HOk P w H h)(k:∀b u,h.get? b=some u->h'.get? b=some u)(hp:h.objs.size<=a)(new:za3 P w (upd H a o) h' a o):HOk P w (upd H a o) h':=fun b u e=>by
 have hn:=x.fresh hp
 by_cases hb:b=a
 ·subst hb;rw [zam] at e;cases e;exact new
 ·rw [zag hb] at e
  exact (x b u e).stay (fun c v _ q=>k c v q) (fun c q=>by rw [zag (zai q hn)];exact q) fun c xs q=>by rw [zag (zai q hn)];exact q
end
noncomputable def Rd(H:Hp)(a:Addr)(u:HO):Prop:=H a=some u\/∃o,H a=some (.frz o u)
def Rd.ok{P:Program}{w:World}{H:Hp}{h:Heap}{a:Addr}{u:HO}(r:Rd H a u)(x:HOk P w H h):za3 P w H h a u:=by
 rcases r with r | ⟨o,r⟩
 ·exact x a u r
 ·obtain ⟨_,q⟩:=x a _ r;exact q
noncomputable def Mut:Option HO->Prop
 | some (.lst _)=>True
 | some (.dK _)=>True
 | some (.dT _)=>True
 | some (.set _ _)=>True
 | some (.ins _ _ _)=>True
 | some (.ext _)=>True
 | _=>False
section
variable{P:Program}{w:World}{H:Hp}{h h':Heap}{x e:Addr}{o':HO}
def HOk.write(ok:HOk P w H h)(mu:Mut (H x))(he:e=x\/H e=some (.own x))(k:∀b u,b≠e->h.get? b=some u->h'.get? b=some u)(heo:∃u,h'.get? e=some u)
  (new:za3 P w (upd H x o') h' x o'):HOk P w (upd H x o') h':=fun b u q=>by
 have nown:∀c y,H c=some (.own y)->c≠x:=fun c y r z=>by subst z;rwa [r] at mu
 have ntup:∀c xs,H c=some (.tup xs)->c≠x:=fun c xs r z=>by subst z;rwa [r] at mu
 by_cases hb:b=x
 ·subst hb;rw [zam] at q;cases q;exact new
 ·rw [zag hb] at q
  by_cases hbe:b=e
  ·have q':H b=some (.own x):=by
    rcases he with z | z
    ·exact absurd (hbe.trans z) hb
    ·rw [hbe];exact z
   rw [q] at q';cases q';obtain ⟨v,hv⟩:=heo;exact ⟨v,by rw [hbe];exact hv⟩
  ·refine (ok b u q).stay (fun c v hc r=>k c v ?_ r) (fun c r=>by rw [zag (nown c b r)];exact r) fun c xs r=>by rw [zag (ntup c xs r)];exact r
   rcases hc with rfl | hc
   ·exact hbe
   ·rintro rfl
    rcases he with z | z
    ·exact nown c b hc z
    ·rw [hc] at z;cases z;exact hb rfl
end
structure Un(fs ex:List Addr)(H H':Hp)(h h':Heap):Prop where
 keep:∀b o,h.get? b=some o->H b=none->b ∉ fs->b ∉ ex->h'.get? b=some o
 slot:∀b o,h.get? b=some o->H b=none->b∈fs->b ∉ ex->∃sl,h'.get? b=some { o with slots:=sl }
 free:∀b o,h.get? b=some o->H b=none->b ∉ ex->H' b=none
 there:∀b o,h.get? b=some o->b ∉ ex->∃o',h'.get? b=some o'
 tups:∀b xs,H b=some (.tup xs)->H' b=some (.tup xs)
 frzs:∀b o u,H b=some (.frz o u)->H' b=some (.frz o u)
 tbls:∀b ps,H b=some (.tbl ps)->∃more,H' b=some (.tbl (ps++more))
section
variable{fs fs' ex ex':List Addr}{H H1 H2:Hp}{h h1 h2 h':Heap}{a x e:Addr}{o:HO}
def Un.any(u:Un fs ex H H1 h h1){b:Addr}{ob:Obj}(q:h.get? b=some ob)(n:H b=none)(hx:b ∉ ex):∃sl,h1.get? b=some { ob with slots:=sl }:=by
 by_cases hb:b∈fs
 ·exact u.slot b ob q n hb hx
 ·exact ⟨ob.slots,u.keep b ob q n hb hx⟩
def Un.kept(k:∀b u,h.get? b=some u->h'.get? b=some u):Un fs ex H H h h' :=
 ⟨fun b ob q _ _ _=>k b ob q,fun b ob q _ _ _=>⟨ob.slots,k b ob q⟩,fun _ _ _ n _=>n,fun b ob q _=>⟨ob,k b ob q⟩,fun _ _ q=>q,fun _ _ _ q=>q,fun _ ps q=>⟨#[],by rw [q];simp⟩⟩
def Un.refl:Un fs ex H H h h:=Un.kept fun _ _ q=>q
def Un.laid(k:∀b u,h.get? b=some u->h'.get? b=some u)(hp:h.objs.size<=a)(hn:H a=none):Un fs ex H (upd H a o) h h' where
 keep:=fun b u q _ _ _=>k b u q
 slot:=fun b u q _ _ _=>⟨u.slots,k b u q⟩
 free:=fun b u q n _=>by rw [zag (yar (yal (yan q) hp))];exact n
 there:=fun b u q _=>⟨u,k b u q⟩
 tups:=fun b xs q=>by rw [zag (zai q hn)];exact q
 frzs:=fun b u xs q=>by rw [zag (zai q hn)];exact q
 tbls:=fun b ps q=>⟨#[],by rw [zag (zai q hn),q];simp⟩
def Un.write(mu:Mut (H x))(he:e=x\/H e=some (.own x))(k:∀b u,b≠e->h.get? b=some u->h'.get? b=some u)(heo:∃u,h'.get? e=some u):Un fs ex H (upd H x o) h h':=by
 have hx:∀b,H b=none->b≠x:=fun b n z=>by subst z;rwa [n] at mu
 have hb:∀b,H b=none->b≠e:=fun b n z=>by
  subst z
  rcases he with r | r
  ·exact hx b n r
  ·rw [n] at r;cases r
 have hm:∀b u,H b=some u->¬ Mut (some u)->b≠x:=fun b u q nm z=>by subst z;rw [q] at mu;exact nm mu
 refine ⟨fun b u q n _ _=>k b u (hb b n) q,fun b u q n _ _=>⟨u.slots,k b u (hb b n) q⟩,fun b u q n _=>by rw [zag (hx b n)];exact n,fun b u q _=>?_,
  fun b xs q=>by rw [zag (hm b _ q fun z=>z)];exact q,fun b u xs q=>by rw [zag (hm b _ q fun z=>z)];exact q,fun b ps q=>⟨#[],by rw [zag (hm b _ q fun z=>z),q];simp⟩⟩
 by_cases hbe:b=e
 ·subst hbe;exact heo
 ·exact ⟨u,k b u hbe q⟩
end
noncomputable def trk(h:Heap)(H:Hp):List Addr:=(List.range h.objs.size).filter fun a=>(H a).isSome
noncomputable def zmi(h:Heap)(H:Hp):Heap:=PySem.W.hideAll h (trk h H)
def zkw(h:Heap)(H:Hp):(zmi h H).objs.size=h.objs.size:=PySem.W.hideAll_size _ _
def zmh{h:Heap}{H:Hp}{b:Addr}{o:Obj}(e:h.get? b=some o)(n:H b=none):(zmi h H).get? b=some o :=
 PySem.W.hideAll_get _ e fun hm=>by
  have q:(H b).isSome=true:=(yb3.mp hm).2;rw [n] at q;simp at q
def zoF{h:Heap}{H:Hp}{b:Addr}{o:Obj}(e:(zmi h H).get? b=some o):h.get? b=some o/\H b=none:=by
 have e':h.get? b=some o:=PySem.W.of_hideAll (trk h H) e;refine ⟨e',?_⟩
 cases q:H b with
 | none=>rfl
 | some x =>
  have hm:b∈trk h H:=yb3.mpr ⟨ybK.mpr (yan e'),by simp [q]⟩;have z:(zmi h H).get? b=none:=PySem.W.hideAll_none (trk h H) hm;rw [z] at e;cases e
noncomputable def zpw(g h:Heap)(L:Addr):List (Addr×Obj):=(List.range h.objs.size).filterMap fun a=>if a=L\/(g.get? a).isSome=true then none else (h.get? a).map fun o=>(a,o)
noncomputable def zbt(g h:Heap)(L d:Addr):List (Addr×Obj):=(zpw g h L).filter fun p=>decide (p.1≠d)
end L2
namespace L2
open PySem PySem.Spec PyProof.Rows
structure Mod(K:PySem.W.Frag)(mg:Z6)(base:Heap):Prop where
 kin:K.In base
 glob:base.Ns mainGlobals mg
 blt:∃mb,base.Ns builtinsNs mb/\∀x:Str,x ≠ "__name__" -> mb x=bootBuiltins x
 nolimit:base.NoLimit
structure Cx where
 prog:Program
 w:World
 K:PySem.W.Frag
 mg:Str->Option Value
 base:Heap
 A:Around
 N:List Str
 s₀:Shared
 H₀:Hp
 env:Env
 outer:List Env
 stack:List Env
 ex:List Addr
 fn:Str->Bool
 calm:Bool
 pn:List (Addr×Obj)
 xe:Value->Shared->Prop
noncomputable def frs(l:List Env):List Addr:=l.filterMap (·.frame)
noncomputable abbrev Cx.fs(X:Cx):List Addr:=frs X.outer
noncomputable def Vis(sc:Scope)(x:Str):Prop:=sc.names.lookup x=some .local\/sc.names.lookup x=some .cell\/sc.names.lookup x=some .free
noncomputable def Loc(sc:Scope)(x:Str):Prop:=sc.names.lookup x=some .local\/sc.names.lookup x=some .cell
noncomputable def zyO(env:Env)(h:Heap)(m:Z6)(x:Str)(u:Value):Prop :=
 (env.kindOf x=some .local/\m x=some u)\/((env.kindOf x=some .cell\/env.kindOf x=some .free)/\∃c,env.cells.lookup x=some c/\h.IsCell c (some u))
structure Cx.Ok(X:Cx):Prop where
 mod:Mod X.K X.mg X.base
 kind:X.env.scope.kind=.function
 glob:X.env.globals=mainGlobals
 blt:X.env.builtins=builtinsNs
 above:X.s₀.heap.objs.size<=X.env.locals
 inj:∀x y c,X.env.cells.lookup x=some c->X.env.cells.lookup y=some c->x=y
 has:∀x,(X.env.kindOf x=some .cell\/X.env.kindOf x=some .free)->∃c,X.env.cells.lookup x=some c
 cab:∀x c,X.fn x=true->X.env.cells.lookup x=some c->X.s₀.heap.objs.size<=c
 hd:X.calm=true->X.A.handled=none
 frames:X.A.frames=some X.stack
 stk:X.stack=X.outer\/(X.stack=X.env::X.outer/\X.env.frame=some X.env.locals)
 exf:∀b∈X.ex,b≠X.env.locals/\∀x c,X.env.cells.lookup x=some c->c≠b
 bs:∀b o,X.base.get? b=some o->X.s₀.heap.get? b=some o/\X.H₀ b=none
 bsz:X.base.objs.size<=X.s₀.heap.objs.size
 noex:∀b o,X.base.get? b=some o->b ∉ X.ex
 exfs:∀b∈X.ex,b ∉ X.fs
 funs:X.s₀.heap.FunFrames X.base X.outer
 frf:∀b∈X.fs,X.H₀ b=none
structure Inv(X:Cx)(pins:Z3)(σ:List (Option V))(H:Hp)(s:Shared):Prop where
 ok:X.Ok
 os:s.os=X.s₀.os
 bare:AllBare s.gens
 base:Un X.fs X.ex X.H₀ H X.s₀.heap s.heap
 loc:∃m,s.heap.Ns X.env.locals m/\∀(i:Nat) (x:Str) (v:V),X.N[i]?=some x->σ[i]?=some (some v)->Vis X.env.scope x->∃u,zaE v u/\zyO X.env s.heap m x u
 cell:∀x c,X.env.cells.lookup x=some c->∃v,s.heap.IsCell c v
 free:H X.env.locals=none
 freeC:∀x c,X.env.cells.lookup x=some c->H c=none
 pin:∀p∈X.pn++pins,s.heap.get? p.1=some p.2/\H p.1=none/\p.1≠X.env.locals/\p.1 ∉ X.fs/\∀v,p.2.data≠.cell v
 hok:HOk X.prog X.w H s.heap
 len:σ.length=X.N.length
section
variable{X:Cx}{pins:Z3}{σ:List (Option V)}{H H':Hp}{s:Shared}{h':Heap}
def Cx.Ok.nofr(ok:X.Ok){b:Addr}{o:Obj}(e:X.base.get? b=some o):b ∉ X.fs:=fun hb=>by
 have:=(ok.funs.mem hb).1;rw [e] at this;cases this
theorem Inv.bs(I:Inv X pins σ H s):∀b o,X.base.get? b=some o->s.heap.get? b=some o/\H b=none:=fun b o e =>
 ⟨I.base.keep b o (I.ok.bs b o e).1 (I.ok.bs b o e).2 (I.ok.nofr e) (I.ok.noex b o e),I.base.free b o (I.ok.bs b o e).1 (I.ok.bs b o e).2 (I.ok.noex b o e)⟩
def Inv.bk(I:Inv X pins σ H s):∀b o,X.base.get? b=some o->s.heap.get? b=some o:=fun b o e=>(I.bs b o e).1
theorem Inv.mod(I:Inv X pins σ H s):Mod X.K X.mg X.base:=I.ok.mod
def Inv.kIn(I:Inv X pins σ H s):X.K.In s.heap:=I.ok.mod.kin.keeps I.bk
theorem Inv.lt(I:Inv X pins σ H s):X.env.locals<s.heap.objs.size:=let ⟨_,hn,_⟩:=I.loc;hn.lt
def Inv.sz(I:Inv X pins σ H s):X.s₀.heap.objs.size<=s.heap.objs.size:=yaq I.ok.above (ycM I.lt)
def Inv.nofs(I:Inv X pins σ H s){a:Addr}(h:s.heap.objs.size<=a):a ∉ X.fs:=fun hb=>by
 obtain ⟨_,o,ho,_⟩:=I.ok.funs.mem hb;exact absurd (yal (yan ho) (yaq I.sz h)) (ya4 _)
def Inv.cne(I:Inv X pins σ H s):∀x c,X.env.cells.lookup x=some c->c≠X.env.locals:=fun x c e z=>by
 obtain ⟨v,o,ho,hd⟩:=I.cell x c e;obtain ⟨m,⟨o',es,ep,ho',hd',_⟩,_⟩:=I.loc;rw [z,ho'] at ho;cases ho;rw [hd'] at hd;cases hd
theorem Inv.funs(I:Inv X pins σ H s):s.heap.FunFrames X.base X.outer:=by
 have all:∀(l:List Env),(∀b∈frs l,b∈X.fs)->X.s₀.heap.FunFrames X.base l->s.heap.FunFrames X.base l:=by
  intro l
  induction l with
  | nil=>intro _ _;trivial
  | cons env r ih =>
   intro hs hl;obtain ⟨hk,⟨L,o,hf,hn,ho,hd⟩,hr⟩:=hl;have hL:L∈X.fs:=hs L (by unfold frs;rw [ybc,hf];exact yaD);obtain ⟨sl,e⟩:=I.base.slot L o ho (I.ok.frf L hL) hL fun z=>I.ok.exfs L z hL
   exact ⟨hk,⟨L,_,hf,hn,e,hd⟩,ih (fun b hb=>hs b (by unfold frs;rw [ybc,hf];exact yaw _ hb)) hr⟩
 exact all X.outer (fun _ hb=>hb) I.ok.funs
theorem Inv.stack(I:Inv X pins σ H s):s.heap.FunFrames X.base X.stack:=by
 rcases I.ok.stk with e | ⟨e,hf⟩
 ·rw [e];exact I.funs
 ·rw [e];obtain ⟨m,hn,_⟩:=I.loc;refine .cons (by rw [I.ok.kind];decide) hf hn ?_ I.funs;exact Heap.get?_none_of_le (yaq I.ok.bsz I.ok.above)
def Inv.stkSub(I:Inv X pins σ H s):∀b∈frs X.stack,b∈X.env.locals::X.fs:=fun b hb=>by
 rcases I.ok.stk with e | ⟨e,hf⟩
 ·rw [e] at hb;exact yaw _ hb
 ·rw [e] at hb;unfold frs at hb;rwa [ybc,hf] at hb
def Inv.stkFree(I:Inv X pins σ H s):∀b∈frs X.stack,H b=none:=fun b hb=>by
 rcases yat.mp (I.stkSub b hb) with e | hb
 ·rw [e];exact I.free
 ·obtain ⟨_,o,ho,_⟩:=I.ok.funs.mem hb;exact I.base.free b o ho (I.ok.frf b hb) fun z=>I.ok.exfs b z hb
def Inv.step{g':Array GenState}{t':Nat}{d':Drawn}{ch:List Addr}(I:Inv X pins σ H s)
  (hch:∀b∈ch,(b∈X.ex\/X.s₀.heap.objs.size<=b)/\b≠X.env.locals/\(∀x c,X.env.cells.lookup x=some c->c≠b)/\∀p∈X.pn++pins,p.1≠b)
  (keep:∀b o,b≠X.env.locals->b ∉ X.fs->b ∉ ch->s.heap.get? b=some o->H b=none->h'.get? b=some o)
  (slot:∀b o,b≠X.env.locals->b∈X.fs->b ∉ ch->s.heap.get? b=some o->H b=none->∃sl,h'.get? b=some { o with slots:=sl }) (free:∀b o,b ∉ ch->s.heap.get? b=some o->H b=none->H' b=none)
  (there:∀b o,b ∉ ch->s.heap.get? b=some o->∃o',h'.get? b=some o')
  (tups:∀b xs,H b=some (.tup xs)->H' b=some (.tup xs)) (frzs:∀b o u,H b=some (.frz o u)->H' b=some (.frz o u)) (tbls:∀b ps,H b=some (.tbl ps)->∃more,H' b=some (.tbl (ps++more)))
  (ns:∀m,s.heap.Ns X.env.locals m->h'.Ns X.env.locals m) (hok:HOk X.prog X.w H' h') (hg:AllBare g') :
  Inv X pins σ H' { s with heap:=h',gens:=g',drawn:=d',toks:=t' }:=by
 have neL:∀b o,X.s₀.heap.get? b=some o->b≠X.env.locals:=fun b o e=>yar (yal (yan e) I.ok.above)
 have neC:∀b o,X.s₀.heap.get? b=some o->b ∉ X.ex->b ∉ ch:=fun b o e hx hb=>by
  rcases (hch b hb).1 with z | z
  ·exact hx z
  ·exact absurd (yal (yan e) z) (ya4 _)
 have cellK:∀x c,X.env.cells.lookup x=some c->∀v,s.heap.IsCell c v->h'.IsCell c v:=fun x c e v ⟨o,ho,hd⟩=>by
  have nch:c ∉ ch:=fun z=>(hch c z).2.2.1 x c e rfl
  by_cases hc:c∈X.fs
  ·obtain ⟨sl,q⟩:=slot c o (I.cne x c e) hc nch ho (I.freeC x c e);exact ⟨_,q,hd⟩
  ·exact ⟨o,keep c o (I.cne x c e) hc nch ho (I.freeC x c e),hd⟩
 refine ⟨I.ok,I.os,hg,⟨fun b o e n hb hx=>?_,fun b o e n hb hx=>?_,fun b o e n hx=>?_,fun b o e hx=>?_,fun b xs e=>tups b xs (I.base.tups b xs e),fun b o xs e=>frzs b o xs (I.base.frzs b o xs e),fun b ps e=>?_⟩,?_,fun x c e=>?_,?_,fun x c e=>?_,fun p hp=>?_,hok,I.len⟩
 ·exact keep b o (neL b o e) hb (neC b o e hx) (I.base.keep b o e n hb hx) (I.base.free b o e n hx)
 ·obtain ⟨sl,e1⟩:=I.base.slot b o e n hb hx;obtain ⟨sl',e2⟩:=slot b _ (neL b o e) hb (neC b o e hx) e1 (I.base.free b o e n hx);exact ⟨sl',e2⟩
 ·obtain ⟨o',e1⟩:=I.base.there b o e hx;exact free b o' (neC b o e hx) e1 (I.base.free b o e n hx)
 ·obtain ⟨o',e1⟩:=I.base.there b o e hx;exact there b o' (neC b o e hx) e1
 ·obtain ⟨m1,e1⟩:=I.base.tbls b ps e;obtain ⟨m2,e2⟩:=tbls b _ e1;exact ⟨m1++m2,by rw [e2,Array.append_assoc]⟩
 ·obtain ⟨m,hn,hl⟩:=I.loc;refine ⟨m,ns m hn,fun i x v e1 e2 e3=>?_⟩;obtain ⟨u,r,l⟩:=hl i x v e1 e2 e3;refine ⟨u,r,?_⟩
  rcases l with l | ⟨k,c,e,z⟩
  ·exact .inl l
  ·exact .inr ⟨k,c,e,cellK x c e _ z⟩
 ·obtain ⟨v,z⟩:=I.cell x c e;exact ⟨v,cellK x c e v z⟩
 ·obtain ⟨m,⟨o,_,_,ho,_⟩,_⟩:=I.loc;exact free _ o (fun z=>(hch _ z).2.1 rfl) ho I.free
 ·obtain ⟨v,o,ho,hd⟩:=I.cell x c e;exact free c o (fun z=>(hch c z).2.2.1 x c e rfl) ho (I.freeC x c e)
 ·obtain ⟨e,n,ne,nf,d⟩:=I.pin p hp;have nch:p.1 ∉ ch:=fun z=>(hch p.1 z).2.2.2 p hp rfl
  exact ⟨keep p.1 p.2 ne nf nch e n,free p.1 p.2 nch e n,ne,nf,d⟩
def Inv.un{t':Nat}(I:Inv X pins σ H s)(u:Un X.fs [] H H' s.heap h')(hok:HOk X.prog X.w H' h'):Inv X pins σ H' { s with heap:=h',toks:=t' }:=by
 obtain ⟨m,⟨o,es,ep,ho,r⟩,_⟩:=id I.loc;obtain ⟨sl,hL⟩:=u.any ho I.free (by simp)
 exact I.step (g':=s.gens) (d':=s.drawn) (ch:=[]) (fun _ z=>nomatch z) (fun b o _ hb _ e n=>u.keep b o e n hb (by simp)) (fun b o _ hb _ e n=>u.slot b o e n hb (by simp)) (fun b o _ e n=>u.free b o e n (by simp)) (fun b o _ e=>u.there b o e (by simp)) u.tups u.frzs u.tbls (fun m' hm=>by
  obtain ⟨o',es',ep',ho',r'⟩:=hm;rw [ho] at ho';cases ho'
  exact ⟨_,es',ep',hL,r'⟩) hok I.bare
def Inv.call{g':Array GenState}{t':Nat}{d':Drawn}{ch:List Addr}(I:Inv X pins σ H s)(u:Un (frs X.stack) ch H H' s.heap h')(hok:HOk X.prog X.w H' h')(hg:AllBare g')
  (hch:∀b∈ch,(b∈X.ex\/X.s₀.heap.objs.size<=b)/\b≠X.env.locals/\(∀x c,X.env.cells.lookup x=some c->c≠b)/\∀p∈X.pn++pins,p.1≠b) :
  Inv X pins σ H' { s with heap:=h',gens:=g',drawn:=d',toks:=t' }:=by
 obtain ⟨m,⟨o,es,ep,ho,r⟩,_⟩:=id I.loc;obtain ⟨sl,hL⟩:=u.any ho I.free fun z=>(hch _ z).2.1 rfl
 exact I.step (ch:=ch) hch (fun b o hL hb hc e n=>u.keep b o e n (fun z=>(yat.mp (I.stkSub b z)).elim hL hb) hc) (fun b o _ _ hc e n=>u.any e n hc) (fun b o hc e n=>u.free b o e n hc) (fun b o hc e=>u.there b o e hc) u.tups u.frzs u.tbls (fun m' hm=>by
  obtain ⟨o',es',ep',ho',r'⟩:=hm;rw [ho] at ho';cases ho'
  exact ⟨_,es',ep',hL,r'⟩) hok hg
def Inv.turned{t':Nat}{it:Addr}(I:Inv X pins σ H s)(k:∀b o,b≠it->s.heap.get? b=some o->h'.get? b=some o)(hn:H it=none)(hL:it≠X.env.locals)
  (h1:it∈X.ex\/X.s₀.heap.objs.size<=it) (h2:∀x c,X.env.cells.lookup x=some c->c≠it) (h3:∀p∈X.pn++pins,p.1≠it):Inv X pins σ H { s with heap:=h',toks:=t' }:=by
 have nit:∀b u,H b=some u->b≠it:=fun b u e z=>by rw [z,hn] at e;cases e
 refine I.step (g':=s.gens) (d':=s.drawn) (ch:=[it]) (fun b hb=>?_) (fun b o _ _ hc e _=>k b o (fun z=>hc (by simp [z])) e) (fun b o _ _ hc e _=>⟨o.slots,k b o (fun z=>hc (by simp [z])) e⟩) (fun _ _ _ _ n=>n)
  (fun b o hc e=>⟨o,k b o (fun z=>hc (by simp [z])) e⟩) (fun _ _ e=>e) (fun _ _ _ e=>e) (fun b ps e=>⟨#[],by rw [e];simp⟩) (fun m hm=>?_) (fun b u e=>?_) I.bare
 ·have e:b=it:=by simpa using hb
  subst e;exact ⟨h1,hL,h2,h3⟩
 ·obtain ⟨o,es,ep,ho,r⟩:=hm;exact ⟨o,es,ep,k _ o (Ne.symm hL) ho,r⟩
 ·refine (I.hok b u e).stay (fun c v hc q=>k c v ?_ q) (fun _ q=>q) fun _ _ q=>q
  rcases hc with z | z
  ·rw [z];exact nit b u e
  ·exact nit c _ z
def Inv.tok(I:Inv X pins σ H s)(t:Nat):Inv X pins σ H { s with toks:=t }:=I.un (h':=s.heap) (t':=t) Un.refl I.hok
theorem Inv.kept{t':Nat}(I:Inv X pins σ H s)(k:∀b u,s.heap.get? b=some u->h'.get? b=some u):Inv X pins σ H { s with heap:=h',toks:=t' }:=I.un (Un.kept k) (I.hok.kept k)
theorem Inv.laid{a:Addr}{o:HO}{t':Nat}(I:Inv X pins σ H s)(k:∀b u,s.heap.get? b=some u->h'.get? b=some u)(hp:s.heap.objs.size<=a)(new:za3 X.prog X.w (upd H a o) h' a o) :
  Inv X pins σ (upd H a o) { s with heap:=h',toks:=t' }:=I.un (Un.laid k hp (I.hok.fresh hp)) (I.hok.laid k hp new)
theorem Inv.write{x e:Addr}{o:HO}{t':Nat}(I:Inv X pins σ H s)(mu:Mut (H x))(he:e=x\/H e=some (.own x))(k:∀b u,b≠e->s.heap.get? b=some u->h'.get? b=some u)(heo:∃u,h'.get? e=some u)
  (new:za3 X.prog X.w (upd H x o) h' x o):Inv X pins σ (upd H x o) { s with heap:=h',toks:=t' }:=I.un (Un.write mu he k heo) (I.hok.write mu he k heo new)
def Inv.pins_of{pins':Z3}(I:Inv X pins σ H s)(h:∀p∈pins',s.heap.get? p.1=some p.2/\H p.1=none/\p.1≠X.env.locals/\p.1 ∉ X.fs/\∀v,p.2.data≠.cell v):Inv X pins' σ H s :=
 ⟨I.ok,I.os,I.bare,I.base,I.loc,I.cell,I.free,I.freeC,fun p hp=>(ybo.mp hp).elim (fun z=>I.pin p (ycR _ z)) (h p),I.hok,I.len⟩
def zhR{N:List Str}(hN:N.Nodup){i j:Nat}{x:Str}(a:N[i]?=some x)(b:N[j]?=some x):i=j:=by
 obtain ⟨h1,e1⟩:=yam.mp a;obtain ⟨h2,e2⟩:=yam.mp b;exact (List.getElem_inj hN).mp (e1.trans e2.symm)
def zf1{M:Model}{A:Around}{E:Z5}{i:Nat}{x:Str}{v:V}{u:Value}{Q:Unit->Shared->Prop}(I:Inv X pins σ H s)(hN:X.N.Nodup)(hi:X.N[i]?=some x)(hx:Loc X.env.scope x)(r:zaE v u)
  (h:∀s',Inv X pins (σ.set i (some v)) H s'->(∃a,Heap.SameBut a s.heap s'.heap/\(a=X.env.locals\/X.env.cells.lookup x=some a))->Q () s') (hf:X.fn x=true\/X.env.scope.names.lookup x=some .local:=by first | exact .inl rfl | exact .inr rfl | assumption):wpAny M A (storeName X.env x u) Q E s:=by
 obtain ⟨m,hn,hl⟩:=id I.loc
 have hcls:(X.env.scope.kind == .class||(X.env.scope.kind == .module&&X.env.locals != X.env.globals))=false:=by rw [I.ok.kind];rfl
 have hiσ:i<σ.length:=by rw [I.len];exact (yam.mp hi).1
 have cne:=I.cne
 have tracked:∀{a:Addr} {h':Heap},(∃o,s.heap.get? a=some o/\H a=none)->Heap.SameBut a s.heap h'->HOk X.prog X.w H h':=fun {a h'} ha hs b ob e=>by
  obtain ⟨_,_,hfree⟩:=ha;refine (I.hok b ob e).stay (fun c w' hc q=>(hs.2 c ?_).trans q) (fun _ q=>q) fun _ _ q=>q
  rintro rfl
  rcases hc with rfl | hc
  ·rw [hfree] at e;cases e
  ·rw [hfree] at hc;cases hc
 rcases hx with hk | hk
 ·refine wpAny_storeName_local hk hn (fun h' hn' hs=>?_) hcls;obtain ⟨oL,_,_,hoL,_⟩:=id hn;refine h _ ⟨I.ok,I.os,I.bare,⟨fun b o e n hb hx=>?_,fun b o e n hb hx=>?_,I.base.free,fun b o e hx=>?_,I.base.tups,I.base.frzs,I.base.tbls⟩,⟨_,hn',fun j y v' e1 e2 e3=>?_⟩,fun y c e=>?_,I.free,I.freeC,fun p hp=>?_,tracked ⟨oL,hoL,I.free⟩ hs,by simpa using I.len⟩ ⟨_,hs,.inl rfl⟩
  ·exact (hs.2 b (yar (yal (yan e) I.ok.above))).trans (I.base.keep b o e n hb hx)
  ·obtain ⟨sl,e1⟩:=I.base.slot b o e n hb hx;exact ⟨sl,(hs.2 b (yar (yal (yan e) I.ok.above))).trans e1⟩
  ·obtain ⟨o',e1⟩:=I.base.there b o e hx;exact ⟨o',(hs.2 b (yar (yal (yan e) I.ok.above))).trans e1⟩
  ·by_cases hj:j=i
   ·subst hj;rw [hi] at e1;cases e1;rw [yaM hiσ] at e2;cases e2;exact ⟨u,r,.inl ⟨hk,by simp⟩⟩
   ·rw [ya2 (Ne.symm hj)] at e2;obtain ⟨u',r',q⟩:=hl j y v' e1 e2 e3;refine ⟨u',r',?_⟩
    rcases q with ⟨k,e⟩ | ⟨k,c,e,z⟩
    ·refine .inl ⟨k,?_⟩;have:y≠x:=fun e=>hj (zhR hN e1 (e ▸ hi))
     simp [this,e]
    ·exact .inr ⟨k,c,e,z.sameBut hs (cne y c e)⟩
  ·obtain ⟨w',z⟩:=I.cell y c e;exact ⟨w',z.sameBut hs (cne y c e)⟩
  ·obtain ⟨e,n,ne,nf,d⟩:=I.pin p hp;exact ⟨(hs.2 p.1 ne).trans e,n,ne,nf,d⟩
 ·have hfn:X.fn x=true:=by
   rcases hf with z | z
   ·exact z
   ·rw [z] at hk;cases hk
  obtain ⟨c,hc⟩:=I.ok.has x (.inl hk);obtain ⟨w',z⟩:=I.cell x c hc;refine wpAny_storeName_cell I.ok.kind hk hc z (fun h' hc' hs=>?_);obtain ⟨oc,hoc,hocd⟩:=id z;refine h { s with heap:=h' } ⟨I.ok,I.os,I.bare,⟨fun b o e n hb hx=>?_,fun b o e n hb hx=>?_,I.base.free,fun b o e hx=>?_,I.base.tups,I.base.frzs,I.base.tbls⟩,⟨m,hn.sameBut hs (Ne.symm (cne x c hc)),fun j y v' e1 e2 e3=>?_⟩,fun y c' e=>?_,I.free,I.freeC,fun p hp=>?_,tracked ⟨oc,hoc,I.freeC x c hc⟩ hs,by simpa using I.len⟩ ⟨c,hs,.inr hc⟩
  ·exact (hs.2 b (yar (yal (yan e) (I.ok.cab x c hfn hc)))).trans (I.base.keep b o e n hb hx)
  ·obtain ⟨sl,e1⟩:=I.base.slot b o e n hb hx;exact ⟨sl,(hs.2 b (yar (yal (yan e) (I.ok.cab x c hfn hc)))).trans e1⟩
  ·obtain ⟨o',e1⟩:=I.base.there b o e hx;exact ⟨o',(hs.2 b (yar (yal (yan e) (I.ok.cab x c hfn hc)))).trans e1⟩
  ·by_cases hj:j=i
   ·subst hj;rw [hi] at e1;cases e1;rw [yaM hiσ] at e2;cases e2;exact ⟨u,r,.inr ⟨.inl hk,c,hc,hc'⟩⟩
   ·rw [ya2 (Ne.symm hj)] at e2;obtain ⟨u',r',q⟩:=hl j y v' e1 e2 e3;refine ⟨u',r',?_⟩
    rcases q with q | ⟨k,c',e,z'⟩
    ·exact .inl q
    ·refine .inr ⟨k,c',e,z'.sameBut hs ?_⟩;rintro rfl;exact hj (zhR hN e1 (I.ok.inj _ _ _ e hc ▸ hi))
  ·by_cases hcc:c'=c
   ·subst hcc;exact ⟨_,hc'⟩
   ·obtain ⟨w2,z2⟩:=I.cell y c' e;exact ⟨w2,z2.sameBut hs hcc⟩
  ·obtain ⟨e,n,ne,nf,d⟩:=I.pin p hp;refine ⟨(hs.2 p.1 ?_).trans e,n,ne,nf,d⟩;intro q;rw [q,hoc] at e;have q':oc=p.2:=Option.some.inj e;exact d w' (by rw [<-q'];exact hocd)
def zc6{M:Model}{A:Around}{E:Z5}{i:Nat}{x:Str}{v:V}{u:Value}{Q:Unit->Shared->Prop}(I:Inv X pins σ H s)(hN:X.N.Nodup)(hi:X.N[i]?=some x)(hx:Loc X.env.scope x)(r:zaE v u)
  (h:∀s',Inv X pins (σ.set i (some v)) H s'->Q () s') (hf:X.fn x=true\/X.env.scope.names.lookup x=some .local:=by first | exact .inl rfl | exact .inr rfl | assumption):wpAny M A (storeName X.env x u) Q E s :=
 zf1 I hN hi hx r (fun s' I' _=>h s' I') hf
def Inv.call'{s':Shared}{ch:List Addr}(I:Inv X pins σ H s)(ho:s'.os=s.os)(u:Un (frs X.stack) ch H H' s.heap s'.heap)(hok:HOk X.prog X.w H' s'.heap)(hg:AllBare s'.gens)
  (hch:∀b∈ch,(b∈X.ex\/X.s₀.heap.objs.size<=b)/\b≠X.env.locals/\(∀x c,X.env.cells.lookup x=some c->c≠b)/\∀p∈X.pn++pins,p.1≠b):Inv X pins σ H' s':=by
 obtain ⟨h',g',d',t',o'⟩:=s';have e:o'=s.os:=ho;subst e;exact I.call (g':=g') (t':=t') (d':=d') u hok hg hch
end
noncomputable abbrev XK:=Value->Option Addr->Hp->Prop
noncomputable abbrev St:=List (Option V)
noncomputable abbrev VK:=V->Hp->Prop
noncomputable abbrev TE:=St->Hp->VK->Prop
noncomputable abbrev TT:=St->Hp->(Bool->Hp->Prop)->Prop
noncomputable abbrev TA:=St->Hp->(List V->Hp->Prop)->Prop
structure Ends where
 nx:St->Hp->Prop
 rt:VK
 bk:St->Hp->Prop:=fun _ _=>False
 ct:St->Hp->Prop:=fun _ _=>False
noncomputable abbrev TS:=Ends->St->Hp->Prop
noncomputable def EP(X:Cx)(pins:Z3)(σ:St)(Q:VK)(u:Value)(s':Shared):Prop:=∃v H',Inv X pins σ H' s'/\zaE v u/\Q v H'
noncomputable def TP(X:Cx)(pins:Z3)(σ:St)(Q:Bool->Hp->Prop)(b:Bool)(s':Shared):Prop:=∃H',Inv X pins σ H' s'/\Q b H'
noncomputable def AP(X:Cx)(pins:Z3)(σ:St)(Q:List V->Hp->Prop)(us:List Value)(s':Shared):Prop:=∃vs H',Inv X pins σ H' s'/\Vals vs us/\Q vs H'
noncomputable def SP(X:Cx)(pins:Z3)(D:Ends)(f:Flow)(s':Shared):Prop :=
 match f with
 | .next=>∃σ' H',Inv X pins σ' H' s'/\D.nx σ' H'
 | .brk=>∃σ' H',Inv X pins σ' H' s'/\D.bk σ' H'
 | .cont=>∃σ' H',Inv X pins σ' H' s'/\D.ct σ' H'
 | .ret u=>∃v σ' H',Inv X pins σ' H' s'/\zaE v u/\D.rt v H'
noncomputable def PE(X:Cx)(e:Expr)(t:TE):Prop :=
 ∀(pins:Z3) (s:Shared) (σ:St) (H:Hp) (Q:VK),Inv X pins σ H s->t σ H Q->wpAny (model X.prog X.w) X.A (eval e X.env) (EP X pins σ Q) X.xe s
noncomputable def PT(X:Cx)(e:Expr)(t:TT):Prop :=
 ∀(pins:Z3) (s:Shared) (σ:St) (H:Hp) (Q:Bool->Hp->Prop),Inv X pins σ H s->t σ H Q->wpAny (model X.prog X.w) X.A (isTrue e X.env (eval e X.env)) (TP X pins σ Q) X.xe s
noncomputable def PW(X:Cx)(e:Expr)(t:TT):Prop :=
 ∀(whole:Sem Value) (pins:Z3) (s:Shared) (σ:St) (H:Hp) (Q:Bool->Hp->Prop),Inv X pins σ H s->t σ H Q->wpAny (model X.prog X.w) X.A (isTrue e X.env whole) (TP X pins σ Q) X.xe s
def PW.pt{X:Cx}{e:Expr}{t:TT}(h:PW X e t):PT X e t:=h _
noncomputable def PA(X:Cx)(es:List Expr)(t:TA):Prop :=
 ∀(pos:Pos) (pins:Z3) (s:Shared) (σ:St) (H:Hp) (Q:List V->Hp->Prop),Inv X pins σ H s->t σ H Q->wpAny (model X.prog X.w) X.A (spliced (backTo pos (starEach es X.env))) (AP X pins σ Q) X.xe s
noncomputable def PS(X:Cx)(st:Stmt)(t:TS):Prop :=
 ∀(pins:Z3) (s:Shared) (σ:St) (H:Hp) (D:Ends),Inv X pins σ H s->t D σ H->wpAny (model X.prog X.w) X.A (exec st X.env) (SP X pins D) X.xe s
noncomputable def PSs(X:Cx)(st:List Stmt)(t:TS):Prop :=
 ∀(pins:Z3) (s:Shared) (σ:St) (H:Hp) (D:Ends),Inv X pins σ H s->t D σ H->wpAny (model X.prog X.w) X.A (execs st X.env) (SP X pins D) X.xe s
def thn{α:Type}{t:Sem α}{Q Q':α->Shared->Prop}{M:Model}{A:Around}{E:Z5}{s:Shared}(h:wpAny M A t Q E s)(hQ:∀a s,Q a s->Q' a s):wpAny M A t Q' E s:=ybx h hQ fun _ _ x=>x
end L2
namespace L2
open PySem PySem.Spec PyProof.Rows
section
variable{X:Cx}
noncomputable def zmP(i:Nat):TE:=fun σ H Q=>∃v,σ[i]?=some (some v)/\Q v H
noncomputable def tC(v:V):TE:=fun _ H Q=>Q v H
def zbl{i:Nat}{x:Str}{pos:Pos}(hN:X.N[i]?=some x)(hv:Vis X.env.scope x)(hd:(x == ("__debug__":Str))=false:=by decide)(hcd:(x == ("__classdict__":Str))=false:=by decide):PE X (.Name x pos) (zmP i):=by
 intro pins s σ H Q I h;obtain ⟨v,e,h⟩:=h;obtain ⟨m,hn,hl⟩:=I.loc;obtain ⟨u,r,l⟩:=hl i x v hN e hv;have fin:EP X pins σ Q u s:=⟨v,H,I,r,h⟩
 rcases l with ⟨hk,hm⟩ | ⟨hk,c,hc,hcell⟩
 ·exact wpAny_Name (wpAny_loadName_local I.ok.kind hk hn hm fin) hd
 ·rcases hk with hk | hk
  ·exact wpAny_Name (wpAny_loadName_cell I.ok.kind hk hc hcell fin) hd
  ·exact wpAny_Name (wpAny_loadName_free I.ok.kind hk hc hcell fin hcd) hd
def zq5{i j pos}:PE X (.Constant (.int i) j pos) (tC (.int i)):=fun _ _ _ H _ I h=>wpAny_Constant_int ⟨.int i,H,I.tok _,⟨_,rfl⟩,h⟩
def ztO{b j pos}:PE X (.Constant (.bool b) j pos) (tC (.bl b)):=fun _ _ _ H _ I h=>Constant_bool ⟨.bl b,H,I,rfl,h⟩
def zq3{j pos}:PE X (.Constant .none j pos) (tC .non):=fun _ _ _ H _ I h=>Constant_none ⟨.non,H,I,rfl,h⟩
def zqZ{x j pos}:PE X (.Constant (.str x) j pos) (tC (.str x)):=fun _ _ _ H _ I h=>Calls.Constant_str ⟨.str x,H,I.tok _,⟨_,rfl⟩,h⟩
noncomputable def Gl(X:Cx)(x:Str):Prop:=X.env.kindOf x=some .globalImplicit
def zfw{E:Z5}{pins:Z3}{s:Shared}{σ:St}{H:Hp}{x:Str}{u:Value}{pos:Pos}{Q:Z5}(I:Inv X pins σ H s)(hg:Gl X x)(hm:X.mg x=some u)(h:Q u s)
  (hd:(x == ("__debug__":Str))=false:=by decide):wpAny (model X.prog X.w) X.A (eval (.Name x pos) X.env) Q E s :=
 Calls.Name_function_global I.ok.kind hg (Calls.loadGlobal_global (by rw [I.ok.glob];exact I.mod.glob.keeps I.bk) hm h) hd
def zdO{E:Z5}{pins:Z3}{s:Shared}{σ:St}{H:Hp}{x:Str}{u:Value}{pos:Pos}{Q:Z5}(I:Inv X pins σ H s)(hg:Gl X x)(hm:X.mg x=none)(hv:bootBuiltins x=some u)(h:Q u s)
  (hn:x ≠ "__name__":=by decide) (hd:(x == ("__debug__":Str))=false:=by decide):wpAny (model X.prog X.w) X.A (eval (.Name x pos) X.env) Q E s:=by
 obtain ⟨mb,h1,h2⟩:=I.mod.blt;exact Calls.Name_function_global I.ok.kind hg (Calls.loadGlobal_builtin (by rw [I.ok.glob];exact I.mod.glob.keeps I.bk) hm (by rw [I.ok.blt];exact h1.keeps I.bk) ((h2 x hn).trans hv) h) hd
def zox{x:Str}{v:V}{u:Value}{pos:Pos}(hg:Gl X x)(hm:X.mg x=some u)(r:zaE v u)(hd:(x == ("__debug__":Str))=false:=by decide):PE X (.Name x pos) (tC v) :=
 fun _ _ _ H _ I h=>zfw I hg hm ⟨v,H,I,r,h⟩ hd
def zoz{x:Str}{v:V}{u:Value}{pos:Pos}(hg:Gl X x)(hm:X.mg x=none)(hv:bootBuiltins x=some u)(r:zaE v u)(hn:x ≠ "__name__":=by decide)(hd:(x == ("__debug__":Str))=false:=by decide):PE X (.Name x pos) (tC v) :=
 fun _ _ _ H _ I h=>zdO I hg hm hv ⟨v,H,I,r,h⟩ hn hd
variable{a b:Expr}{ta tb:TE}{pos:Pos}
noncomputable def tB(t:TE):TT:=fun σ H Q=>t σ H fun x H1=>∃c,x=.bl c/\Q c H1
def zqR{e:Expr}{t:TE}(h:PE X e t)(he:∀whole,isTrue e X.env whole=(do let v ← whole;standAt e.pos;holding [v] (truthy v)):=by intro _;rfl):PT X e (tB t):=by
 intro pins s σ H Q I hw;refine isTrue_plain (thn (h pins s σ H _ I hw) fun v s1 ⟨x,H1,I1,r1,q1⟩=>?_) (he _);obtain ⟨d,rfl,q⟩:=q1;cases r1;exact ybd ⟨H1,I1,q⟩
variable{tA tB':TT}{zbt:List Expr}
noncomputable def zvP(t u:TT):TT:=fun σ H Q=>t σ H fun c H1=>if c=true then u σ H1 Q else Q false H1
noncomputable def tOr(t u:TT):TT:=fun σ H Q=>t σ H fun c H1=>if c=true then Q true H1 else u σ H1 Q
noncomputable def zvN(t:TT):TT:=fun σ H Q=>t σ H fun c H1=>Q (!c) H1
def zom(ha:PT X a tA):PW X (.BoolOp .And [a] pos) tA:=by
 intro wh pins s σ H Q I h;refine isTrue_and (thn (ha pins s σ H Q I h) fun c s1 e=>?_)
 cases c with
 | true=>exact isTrue_and_nil e
 | false=>exact e
def zqN(ha:PT X a tA):PW X (.BoolOp .Or [a] pos) tA:=by
 intro wh pins s σ H Q I h;refine isTrue_or (thn (ha pins s σ H Q I h) fun c s1 e=>?_)
 cases c with
 | false=>exact isTrue_or_nil e
 | true=>exact e
def zqO(ha:PT X a tA)(hb:PW X (.BoolOp .And (b::zbt) pos) tB'):PW X (.BoolOp .And (a::b::zbt) pos) (zvP tA tB'):=by
 intro wh pins s σ H Q I h;refine isTrue_and (thn (ha pins s σ H _ I h) fun c s1 ⟨H1,I1,q1⟩=>?_)
 cases c with
 | true=>exact hb wh pins s1 σ H1 Q I1 q1
 | false=>exact ⟨H1,I1,q1⟩
def ztJ(ha:PT X a tA)(hb:PW X (.BoolOp .Or (b::zbt) pos) tB'):PW X (.BoolOp .Or (a::b::zbt) pos) (tOr tA tB'):=by
 intro wh pins s σ H Q I h;refine isTrue_or (thn (ha pins s σ H _ I h) fun c s1 ⟨H1,I1,q1⟩=>?_)
 cases c with
 | true=>exact ⟨H1,I1,q1⟩
 | false=>exact hb wh pins s1 σ H1 Q I1 q1
def zqS(ha:PT X a tA):PT X (.UnaryOp .Not a pos) (zvN tA):=by
 intro pins s σ H Q I h;exact isTrue_not (ha pins s σ H (fun c H1=>Q (!c) H1) I h)
noncomputable def ztp(ta tb:TE):TE:=fun σ H Q=>ta σ H fun x H1=>∃c,x=.bl c/\if c=true then tb σ H1 Q else Q (.bl false) H1
noncomputable def zxI(ta tb:TE):TE:=fun σ H Q=>ta σ H fun x H1=>∃c,x=.bl c/\if c=true then Q (.bl true) H1 else tb σ H1 Q
noncomputable def zti(ta:TE):TE:=fun σ H Q=>ta σ H fun x H1=>∃c,x=.bl c/\Q (.bl (!c)) H1
def zq1{op}{t:TE}(h:PE X a t):PE X (.BoolOp op [a] pos) t:=fun pins s σ H Q I hw=>BoolOp_one (h pins s σ H Q I hw)
def zq6(ha:PE X a ta)(hb:PE X (.BoolOp .And (b::zbt) pos) tb):PE X (.BoolOp .And (a::b::zbt) pos) (ztp ta tb):=by
 intro pins s σ H Q I h;refine BoolOp_and (thn (ha pins s σ H _ I h) fun v s1 ⟨x,H1,I1,r1,q1⟩=>?_);obtain ⟨c,rfl,q1⟩:=q1;cases r1;refine ybd ?_
 cases c with
 | true=>exact hb pins s1 σ H1 Q I1 q1
 | false=>exact ⟨.bl false,H1,I1,rfl,q1⟩
def ztN(ha:PE X a ta)(hb:PE X (.BoolOp .Or (b::zbt) pos) tb):PE X (.BoolOp .Or (a::b::zbt) pos) (zxI ta tb):=by
 intro pins s σ H Q I h;refine BoolOp_or (thn (ha pins s σ H _ I h) fun v s1 ⟨x,H1,I1,r1,q1⟩=>?_);obtain ⟨c,rfl,q1⟩:=q1;cases r1;refine ybd ?_
 cases c with
 | false=>exact hb pins s1 σ H1 Q I1 q1
 | true=>exact ⟨.bl true,H1,I1,rfl,q1⟩
def zq2(ha:PE X a ta):PE X (.UnaryOp .Not a pos) (zti ta):=by
 intro pins s σ H Q I h;refine UnaryOp_ (thn (ha pins s σ H _ I h) fun v s1 ⟨x,H1,I1,r1,q1⟩=>?_);obtain ⟨c,rfl,q1⟩:=q1;cases r1;exact not_of (ybd ⟨.bl (!c),H1,I1,rfl,q1⟩)
noncomputable def tIf(t:TT)(ta tb:TE):TE:=fun σ H Q=>t σ H fun c H1=>if c=true then ta σ H1 Q else tb σ H1 Q
def zlC{c:Expr}(hc:PT X c tA)(ha:PE X a ta)(hb:PE X b tb):PE X (.IfExp c a b pos) (tIf tA ta tb):=by
 intro pins s σ H Q I h;refine wpAny_IfExp (thn (hc pins s σ H _ I h) fun d s1 ⟨H1,I1,q1⟩=>?_)
 cases d with
 | true=>exact ha pins s1 σ H1 Q I1 q1
 | false=>exact hb pins s1 σ H1 Q I1 q1
end
end L2
namespace L2
open PySem PySem.Spec PyProof.Rows
noncomputable def SqL(K:PySem.W.Frag)(H:Hp)(a:Addr)(xs:List V):Prop :=
 Rd H a (.lst xs) ∨
  ∃(o:Obj) (its:Array Value) (n:Nat),K.lookup a=some o/\o.cls=.type "list" /\ o.dict=none/\o.data=.seq its n/\its.size<=sizeLine/\Vals xs its.toList
noncomputable def SqT(K:PySem.W.Frag)(H:Hp)(a:Addr)(xs:List V):Prop :=
 Rd H a (.tup xs) ∨
  ∃(o:Obj) (its:Array Value) (n:Nat),K.lookup a=some o/\o.cls=.type "tuple" /\ o.data=.seq its n/\its.size<=sizeLine/\Vals xs its.toList
noncomputable def zyN:Value->Option V
 | .none=>some .non
 | .bool b=>some (.bl b)
 | .int i _=>some (.int i)
 | .str x _=>some (.str x)
 | .bytes b _=>some (.byt b)
 | .float b _=>some (.flt b)
 | .ref a=>some (.ref a)
 | .type n=>some (.ty n)
 | _=>none
def zaE.abs{x:V}{u:Value}(r:zaE x u):zyN u=some x:=by
 cases x with
 | non=>cases r;rfl
 | bl _=>cases r;rfl
 | int _=>obtain ⟨t,rfl⟩:=r;rfl
 | str _=>obtain ⟨t,rfl⟩:=r;rfl
 | byt _=>obtain ⟨t,rfl⟩:=r;rfl
 | flt _=>obtain ⟨t,rfl⟩:=r;rfl
 | ref _=>cases r;rfl
 | ty _=>cases r;rfl
theorem zaE.inj{x y:V}{u:Value}(r:zaE x u)(q:zaE y u):x=y:=Option.some.inj (r.abs.symm.trans q.abs)
theorem Vals.inj:∀{xs ys:List V} {us:List Value},Vals xs us->Vals ys us->xs=ys
 | _,_,_,.nil,.nil=>rfl
 | _,_,_,.cons r t,.cons r' t'=>by rw [r.inj r',Vals.inj t t']
section
variable{X:Cx}{pins:Z3}{σ:St}{H:Hp}{s:Shared}{a:Addr}{xs ys:List V}
def SqL.of{K:PySem.W.Frag}(h:H a=some (.lst xs)):SqL K H a xs:=.inl (.inl h)
def SqT.of{K:PySem.W.Frag}(h:H a=some (.tup xs)):SqT K H a xs:=.inl (.inl h)
def Inv.list(I:Inv X pins σ H s)(h:SqL X.K H a xs):∃its:List Value,Vals xs its/\PlainL s.heap a its.toArray/\xs.length<=sizeLine:=by
 rcases h with h | ⟨o,its,n,hk,hc,hd,hs,hz,r⟩
 ·obtain ⟨z,its,n,r,e⟩:=h.ok I.hok;exact ⟨its,r,⟨_,n,e,rfl,rfl,rfl⟩,z⟩
 ·refine ⟨its.toList,r,⟨o,n,I.kIn a o hk,hc,hd,by simpa using hs⟩,?_⟩;have e:=r.length;simp only [yaB] at e;omega
def Inv.tuple(I:Inv X pins σ H s)(h:SqT X.K H a xs):∃its:List Value,Vals xs its/\IsTup s.heap a its.toArray/\xs.length<=sizeLine:=by
 rcases h with h | ⟨o,its,n,hk,hc,hs,hz,r⟩
 ·obtain ⟨z,its,r,p⟩:=h.ok I.hok;exact ⟨its,r,p,z⟩
 ·refine ⟨its.toList,r,⟨o,I.kIn a o hk,hc,n,by simpa using hs⟩,?_⟩;have e:=r.length;simp only [yaB] at e;omega
def Inv.list_inj(I:Inv X pins σ H s)(h:SqL X.K H a xs)(h':SqL X.K H a ys):xs=ys:=by
 obtain ⟨its,r,⟨o,n,e,_,_,d⟩,_⟩:=I.list h;obtain ⟨its',r',⟨o',n',e',_,_,d'⟩,_⟩:=I.list h';rw [e] at e';cases e';rw [d] at d'
 injection d' with d1 _
 have:its=its':=by simpa using congrArg Array.toList d1
 subst this;exact r.inj r'
def Inv.tuple_inj(I:Inv X pins σ H s)(h:SqT X.K H a xs)(h':SqT X.K H a ys):xs=ys:=by
 obtain ⟨its,r,⟨o,e,_,n,d⟩,_⟩:=I.tuple h;obtain ⟨its',r',⟨o',e',_,n',d'⟩,_⟩:=I.tuple h';rw [e] at e';cases e';rw [d] at d'
 injection d' with d1 _
 have:its=its':=by simpa using congrArg Array.toList d1
 subst this;exact r.inj r'
end
section
variable{X:Cx}{pins:Z3}{σ:St}{H:Hp}{s:Shared}{E:Z5}
end
section
variable{X:Cx}{st:Stmt}{zbt:List Stmt}{t u:TS}{e:Expr}{te:TE}{pos:Pos}
noncomputable def zpT:TS:=fun D σ H=>D.nx σ H
noncomputable def zxG(t u:TS):TS:=fun D σ H=>t { D with nx:=u D } σ H
def zon:PSs X [] zpT:=fun _ _ σ H _ I h=>wpAny_execs_nil ⟨σ,H,I,h⟩
def zlt(h1:PS X st t)(h2:PSs X zbt u):PSs X (st::zbt) (zxG t u):=by
 intro pins s σ H D I h;refine wpAny_execs_cons (thn (h1 pins s σ H { D with nx:=u D } I h) fun f s1 q=>?_)
 cases f with
 | next =>
  obtain ⟨σ',H',I',q⟩:=q;exact h2 pins s1 σ' H' D I' q
 | ret v=>exact q
 | brk=>exact q
 | cont=>exact q
def ztK(h1:PS X st t):PSs X [st] t:=by
 intro pins s σ H D I h;refine wpAny_execs_cons (thn (h1 pins s σ H D I h) fun f s1 q=>?_)
 cases f with
 | next=>exact wpAny_execs_nil q
 | ret v=>exact q
 | brk=>exact q
 | cont=>exact q
noncomputable def zp0:TS:=fun D σ H=>D.bk σ H
def zop:PS X (.Pass pos) zpT:=fun _ _ σ H _ I h=>wpAny_Pass ⟨σ,H,I,h⟩
def zlw:PS X (.Break pos) zp0:=fun _ _ σ H _ I h=>wpAny_Break ⟨σ,H,I,h⟩
def Inv.quiet{pins:Z3}{σ:St}{H:Hp}{s:Shared}(I:Inv X pins σ H s):interactive X.env=false:=by simp [interactive,I.ok.kind]
noncomputable def ztm(te:TE):TS:=fun D σ H=>te σ H fun _ H1=>D.nx σ H1
def zfk(he:PE X e te)(hs:swapsWith e none pos.line X.env=pure false:=by rfl):PS X (.Expr e pos) (ztm te):=by
 intro pins s σ H D I h;exact wpAny_Expr_any (thn (he pins s σ H _ I h) fun v s1 ⟨x,H1,I1,r1,q1⟩=>⟨σ,H1,I1,q1⟩) I.quiet hs
noncomputable def zxH(te:TE):TS:=fun D σ H=>te σ H D.rt
def zjF(he:PE X e te):PS X (.Return (some e) pos) (zxH te):=by
 intro pins s σ H D I h;exact wpAny_Return_some (thn (he pins s σ H _ I h) fun v s1 ⟨x,H1,I1,r1,q1⟩=>⟨x,σ,H1,I1,r1,q1⟩)
noncomputable def ztg:TS:=fun D _ H=>D.rt .non H
def zoo:PS X (.Return none pos) ztg:=fun _ _ σ H _ I h=>wpAny_Return_none ⟨.non,σ,H,I,rfl,h⟩
noncomputable def zxK(c:TT)(t u:TS):TS:=fun D σ H=>c σ H fun b H1=>if b=true then t D σ H1 else u D σ H1
def ztL{c:Expr}{a b:List Stmt}{tc:TT}(hc:PT X c tc)(ha:PSs X a t)(hb:PSs X b u):PS X (.If c a b pos) (zxK tc t u):=by
 intro pins s σ H D I h;refine wpAny_If (thn (hc pins s σ H _ I h) fun d s1 ⟨H1,I1,q1⟩=>?_)
 cases d with
 | true=>exact ha pins s1 σ H1 D I1 q1
 | false=>exact hb pins s1 σ H1 D I1 q1
end
noncomputable abbrev TG:=V->St->Hp->(St->Hp->Prop)->Prop
noncomputable abbrev TGs:=List V->St->Hp->(St->Hp->Prop)->Prop
noncomputable def PG(X:Cx)(target:Expr)(t:TG):Prop :=
 ∀(pins:Z3) (s:Shared) (σ:St) (H:Hp) (v:V) (u:Value) (Q:St->Hp->Prop),Inv X pins σ H s->zaE v u->t v σ H Q →
  wpAny (model X.prog X.w) X.A (assign target X.env u) (fun _ s'=>∃σ' H',Inv X pins σ' H' s'/\Q σ' H') X.xe s
noncomputable def PGs(X:Cx)(ts:List Expr)(t:TGs):Prop :=
 ∀(pins:Z3) (s:Shared) (σ:St) (H:Hp) (vs:List V) (us:List Value) (Q:St->Hp->Prop),Inv X pins σ H s->Vals vs us->t vs σ H Q →
  wpAny (model X.prog X.w) X.A (assignInOrder ((assignEach ts X.env).map (·.2)) us) (fun _ s'=>∃σ' H',Inv X pins σ' H' s'/\Q σ' H') X.xe s
noncomputable abbrev TSet:=V->V->V->Hp->(Hp->Prop)->Prop
noncomputable def zuZ(X:Cx)(t:TSet):Prop :=
 ∀(pins:Z3) (s:Shared) (σ:St) (H:Hp) (o i v:V) (ov iv u:Value) (Q:Hp->Prop),Inv X pins σ H s->zaE o ov->zaE i iv->zaE v u->t o i v H Q →
  wpAny (model X.prog X.w) X.A (setItem ov iv u) (fun _ s'=>∃H',Inv X pins σ H' s'/\Q H') X.xe s
noncomputable abbrev TIp:=V->V->Hp->VK->Prop
noncomputable def PIp(X:Cx)(op:Operator)(t:TIp):Prop :=
 ∀(pins:Z3) (s:Shared) (σ:St) (H:Hp) (x y:V) (v u:Value) (Q:VK),Inv X pins σ H s->zaE x v->zaE y u->t x y H Q →
  wpAny (model X.prog X.w) X.A (inplaceOp op v u) (EP X pins σ Q) X.xe s
section
variable{X:Cx}{pos:Pos}
noncomputable def zkA(i:Nat):TG:=fun v σ H Q=>Q (σ.set i (some v)) H
def zfn{i:Nat}{x:Str}(hN:X.N.Nodup)(hi:X.N[i]?=some x)(hx:Loc X.env.scope x)(hf:X.fn x=true\/X.env.scope.names.lookup x=some .local:=by first | exact .inl rfl | exact .inr rfl | assumption):PG X (.Name x pos) (zkA i):=by
 intro pins s σ H v u Q I r h;exact wpAny_assign_Name (zc6 I hN hi hx r (fun s' I'=>⟨_,H,I',h⟩) hf)
noncomputable def zyG:TGs:=fun vs σ H Q=>vs=[]/\Q σ H
noncomputable def zur(t:TG)(u:TGs):TGs:=fun vs σ H Q=>∃v r,vs=v::r/\t v σ H fun σ' H'=>u r σ' H' Q
def zjO:PGs X [] zyG:=by
 intro pins s σ H vs us Q I r h;obtain ⟨e,h⟩:=h;subst e;cases r;exact assignInOrder_nil ⟨σ,H,I,h⟩
def zfm{e:Expr}{es:List Expr}{t:TG}{u:TGs}(h1:PG X e t)(h2:PGs X es u)
  (hs:(assignEach (e::es) X.env).map (·.2)=assign e X.env::(assignEach es X.env).map (·.2):=by rfl):PGs X (e::es) (zur t u):=by
 intro pins s σ H vs us Q I r h;obtain ⟨v,vr,e1,h⟩:=h;subst e1
 cases r with
 | cons r rr =>
  rw [hs];refine yc4 (thn (h1 pins s σ H _ _ _ I r h) fun _ s1 ⟨σ1,H1,I1,q1⟩=>?_);exact h2 pins s1 σ1 H1 _ _ Q I1 rr q1
noncomputable def zyE(K:PySem.W.Frag)(n:Nat)(t:TGs):TG:=fun v σ H Q=>∃a xs,v=.ref a/\SqT K H a xs/\xs.length=n/\t xs σ H Q
def zm9{es:List Expr}{k:Nat}{t:TGs}{n:Nat}(hc:X.calm=true)(h:PGs X es t)
  (hn:(assignEach es X.env).length=n:=by rfl) (hst:(assignEach es X.env).findIdx? (·.1)=none:=by rfl):PG X (.Tuple es k pos) (zyE X.K n t):=by
 intro pins s σ H v u Q I r hw;obtain ⟨a,xs,e1,hq,hl,hw⟩:=hw;subst e1;cases r;obtain ⟨its,rv,ht,hz⟩:=I.tuple hq;refine assign_Tuple_tuple (I.ok.hd hc) ht (by simp [hn,<-hl,rv.length]) hst fun h' hx=>?_
 have I1:Inv X pins σ H { s with heap:=h' }:=I.kept (t':=s.toks) fun b o e=>hx b o (yar (yan e)) e
 exact h pins _ σ H xs _ Q I1 (by simpa using rv) hw
noncomputable def zyF(to ti:TE)(t:TSet):TG:=fun v σ H Q=>to σ H fun o H1=>ti σ H1 fun i H2=>t o i v H2 fun H3=>Q σ H3
def zna{o i:Expr}{to ti:TE}{t:TSet}(ho:PE X o to)(hi:PE X i ti)(hs:zuZ X t)
  (ha:∀v,assign (.Subscript o i pos) X.env v=(do
   let ov ← holding [v] (eval o X.env)
   let iv ← holding [v,ov] (eval i X.env)
   standAt pos
   holding [v,ov,iv] (setItem ov iv v)
   release [v,ov,iv] []):=by intro _;rfl):PG X (.Subscript o i pos) (zyF to ti t):=by
 intro pins s σ H v u Q I r h;rw [ha];refine yaa (yaW (thn (ho pins s σ H _ I h) fun ov s1 ⟨x,H1,I1,r1,q1⟩=>?_));refine yaa (yaW (thn (hi pins s1 σ H1 _ I1 q1) fun iv s2 ⟨y,H2,I2,r2,q2⟩=>?_));refine yaa (ydl (yaa (yaW (thn (hs pins s2 σ H2 x y v ov iv u _ I2 r1 r2 r q2) fun _ s3 ⟨H3,I3,q3⟩=>?_))));exact wpAny_release ⟨σ,H3,I3,q3⟩
noncomputable def zpB(te:TE)(g:TG):TS:=fun D σ H=>te σ H fun x H1=>g x σ H1 D.nx
def zhI{tg e:Expr}{te:TE}{g:TG}(he:PE X e te)(hg:PG X tg g)(hs:swapsWithSole [tg] e pos.line X.env=pure false:=by rfl)(hw:swappedStores [tg] e X.env=pure none:=by rfl)
  (h1:(assignEach [tg] X.env).map (·.2)=[assign tg X.env]:=by rfl):PS X (.Assign [tg] e pos) (zpB te g):=by
 intro pins s σ H D I h;refine wpAny_Assign_stores (thn (he pins s σ H _ I h) fun v s1 ⟨x,H1,I1,r1,q1⟩=>?_) hs hw;rw [h1];exact thn (hg pins s1 σ H1 x v _ I1 r1 q1) fun _ s2 q=>q
def zm5{i:Nat}{x:Str}{e:Expr}{te:TE}{pos':Pos}(hN:X.N.Nodup)(hi:X.N[i]?=some x)(hx:Loc X.env.scope x)(he:PE X e te)(hs:swapsWith e (some (.Name x pos')) pos.line X.env=pure false:=by rfl)(hf:X.fn x=true\/X.env.scope.names.lookup x=some .local:=by first | exact .inl rfl | exact .inr rfl | assumption) :
  PS X (.Assign [.Name x pos'] e pos) (zpB te (zkA i)):=by
 intro pins s σ H D I h;refine wpAny_Assign_Name (thn (he pins s σ H _ I h) fun v s1 ⟨y,H1,I1,r1,q1⟩=>?_) hs;exact zc6 I1 hN hi hx r1 (fun s2 I2=>⟨_,H1,I2,q1⟩) hf
noncomputable def zvM(i j:Nat)(ta:TA):TS:=fun D σ H=>ta σ H fun vs H1=>∃v w,vs=[v,w]/\D.nx ((σ.set i (some v)).set j (some w)) H1
def zqT{i j:Nat}{x y:Str}{a b:Expr}{ta:TA}{px py pt:Pos}{kt k2 pt2}(hc:X.calm=true)(hN:X.N.Nodup)(hi:X.N[i]?=some x)(hj:X.N[j]?=some y)(hij:i≠j)
  (hx:X.env.scope.names.lookup x=some .local) (hy:X.env.scope.names.lookup y=some .local) (ha:PA X [a,b] ta)
  (hw:swappedStores [.Tuple [.Name x px,.Name y py] kt pt] (.Tuple [a,b] k2 pt2) X.env=pure (some [x,y]))
  (hs:swapsWithSole [.Tuple [.Name x px,.Name y py] kt pt] (.Tuple [a,b] k2 pt2) pos.line X.env=pure false:=by rfl) :
  PS X (.Assign [.Tuple [.Name x px,.Name y py] kt pt] (.Tuple [a,b] k2 pt2) pos) (zvM i j ta):=by
 intro pins s σ H D I h;rw [exec_Assign_arm];refine yaa (ydl ?_);rw [hs];refine yaa (yac ?_);rw [if_neg (by decide)];refine yaa (Tuple_ (thn (ha _ pins s σ H _ I h) fun us s1 ⟨vs,H1,I1,r1,q1⟩=>?_));obtain ⟨v,w,e1,q1⟩:=q1;subst e1
 obtain ⟨u1,u2,rfl,rv,rw'⟩:∃u1 u2,us=[u1,u2]/\zaE v u1/\zaE w u2:=by
  cases r1 with
  | cons p q =>
   cases q with
   | cons p' q' =>
    cases q';exact ⟨_,_,rfl,p,p'⟩
 refine yaR ?_ (by show 2<=sizeLine;decide);have I2:Inv X pins σ H1 { s1 with heap:=s1.heap.push { cls:=.type "tuple",data:=.seq [u1,u2].toArray } }:=I1.kept (t':=s1.toks) fun b o e=>yae _ e
 rw [hw];refine yaa (yac ?_);show wpAny (model X.prog X.w) X.A (do rule "assign.swapped-stores";let items ← unpackItems (.ref s1.heap.objs.size) 2 none;assignInOrder [fun v=>bindName X.env y v,fun v=>bindName X.env x v] items.reverse;pure Flow.next) _ _ _;refine yaa (yco (yaa (unpackItems_tuple (items:=#[u1,u2]) (I.ok.hd hc) (IsTup.new s1.heap _) fun h' hx'=>?_)));have I3:=I2.kept (h':=h') (t':=s1.toks) fun b o e=>hx' b o (yar (yan e)) e
 show wpAny _ _ (assignInOrder [fun v=>bindName X.env y v,fun v=>bindName X.env x v] [u2,u1] >>= fun _=>pure Flow.next) _ _ _;refine yaa (yc4 (wpAny_bindName (zc6 I3 hN hj (.inl hy) rw' (fun s2 I4=>?_) (.inr hy))));refine yc4 (wpAny_bindName (zc6 I4 hN hi (.inl hx) rv (fun s3 I5=>assignInOrder_nil (yac ?_)) (.inr hx)));rw [List.set_comm _ _ (Ne.symm hij)] at I5;exact ⟨_,H1,I5,q1⟩
noncomputable def zxM(i:Nat)(te:TE)(ti:TIp):TS:=fun D σ H=>∃x,σ[i]?=some (some x)/\te σ H fun y H1=>ti x y H1 fun z H2=>D.nx (σ.set i (some z)) H2
def zqV{i:Nat}{x:Str}{e:Expr}{te:TE}{op:Operator}{ti:TIp}{pos':Pos}(hN:X.N.Nodup)(hi:X.N[i]?=some x)(hx:Loc X.env.scope x)(he:PE X e te)(ho:PIp X op ti)(hf:X.fn x=true\/X.env.scope.names.lookup x=some .local:=by first | exact .inl rfl | exact .inr rfl | assumption) :
  PS X (.AugAssign (.Name x pos') op e pos) (zxM i te ti):=by
 intro pins s σ H D I h;obtain ⟨v,e1,h⟩:=h;obtain ⟨m,hn,hl⟩:=I.loc
 have vis:Vis X.env.scope x:=by rcases hx with k | k;exact .inl k;exact .inr (.inl k)
 obtain ⟨u,r,l⟩:=hl i x v hi e1 vis;refine wpAny_AugAssign_Name ?_
 have go:wpAny (model X.prog X.w) X.A (eval e X.env) (fun w s₂=>wpAny (model X.prog X.w) X.A (inplaceOp op u w) (fun r s₃=>wpAny (model X.prog X.w) X.A (storeName X.env x r) (fun _=>SP X pins D .next) X.xe s₃) X.xe s₂) X.xe s:=by
  refine thn (he pins s σ H _ I h) fun w s1 ⟨y,H1,I1,r1,q1⟩=>?_
  refine thn (ho pins s1 σ H1 v y u w _ I1 r r1 q1) fun z s2 ⟨zv,H2,I2,r2,q2⟩=>?_
  exact zc6 I2 hN hi hx r2 (fun s3 I3=>⟨_,H2,I3,q2⟩) hf
 rcases l with ⟨hk,hm⟩ | ⟨hk,c,hc,hcell⟩
 ·exact wpAny_loadName_local I.ok.kind hk hn hm go
 ·rcases hk with hk | hk
  ·exact wpAny_loadName_cell I.ok.kind hk hc hcell go
  ·rcases hx with k | k
   ·have:X.env.scope.names.lookup x=some .free:=hk;rw [k] at this;cases this
   ·have:X.env.scope.names.lookup x=some .free:=hk;rw [k] at this;cases this
end
section
variable{X:Cx}{pos:Pos}
end
structure It where
 go:Nat->Hp->Prop
 yld:Nat->Hp->V->Hp->Prop
 stop:Nat->Hp->Prop
noncomputable def znE(X:Cx)(pins:Z3)(H:Hp)(b:Addr):Prop :=
 H b=none/\b≠X.env.locals/\b ∉ X.fs/\(b∈X.ex\/X.s₀.heap.objs.size<=b)/\(∀x c,X.env.cells.lookup x=some c->c≠b)/\∀p∈X.pn++pins,p.1≠b
def Inv.fpOk{X:Cx}{pins:Z3}{σ:St}{H H':Hp}{s:Shared}{b:Addr}(I:Inv X pins σ H s)(hb:s.heap.objs.size<=b)(hn:H' b=none):znE X pins H' b:=by
 refine ⟨hn,ybj (yal I.lt hb),I.nofs hb,.inr (yaq I.sz hb),fun x c e z=>?_,fun p hp z=>?_⟩
 ·obtain ⟨v,q⟩:=I.cell x c e;exact absurd (yal q.lt (by rw [z];exact hb)) (ya4 _)
 ·exact absurd (yal (yan (I.pin p hp).1) (by rw [z];exact hb)) (ya4 _)
structure Turn(P:Program)(w:World)(K:PySem.W.Frag)(tg:Expr)(J:It)(fp:List Addr)(it:Addr)(tn:Nat->Heap->Prop):Prop where
 mem:it∈fp
 obj:∀i h,tn i h->∀b∈fp,∃o,h.get? b=some o/\∀v,o.data≠.cell v
 keep:∀i h h',tn i h->(∀b∈fp,∀o,h.get? b=some o->h'.get? b=some o)->tn i h'
 item:∀(X:Cx),X.prog=P->X.w=w->X.K=K->X.calm=true->∀(i:Nat) (pins:Z3) (s:Shared) (σ:St) (H:Hp) (E:Z5),Inv X pins σ H s->(∀b∈fp,znE X pins H b)->tn i s.heap->J.go i H →
  wpAny (model P w) X.A (pyNext (.ref it)) (fun r s1=>∃u,r=some u ∧
   wpAny (model P w) X.A (letOwnedTupleGo tg (.ref it) u) (fun _ s2=>∃x H',Inv X pins σ H' s2/\zaE x u/\J.yld i H x H'/\tn (i+1) s2.heap/\∀b∈fp,H' b=none) E s1) E s
 done:∀(X:Cx),X.prog=P->X.w=w->X.K=K->X.calm=true->∀(i:Nat) (pins:Z3) (s:Shared) (σ:St) (H:Hp) (E:Z5),Inv X pins σ H s->(∀b∈fp,znE X pins H b)->tn i s.heap->J.stop i H →
  wpAny (model P w) X.A (pyNext (.ref it)) (fun r s1=>r=none/\Inv X pins σ H s1) E s
 self:∀(A:Around) (i:Nat) (s:Shared) (Q:Z5) (E:Z5),tn i s.heap->Q (.ref it) s->wpAny (model P w) A (pyIter (.ref it)) Q E s
noncomputable abbrev TI:=St->Hp->(It->Hp->Prop)->Prop
noncomputable def PIE(X:Cx)(pins:Z3)(σ:St)(tg:Expr)(R:It->Hp->Prop)(itv:Value)(s2:Shared):Prop :=
 ∃(it:Addr) (fp:List Addr) (tn:Nat->Heap->Prop) (J:It) (H':Hp),itv=.ref it/\Inv X pins σ H' s2/\Turn X.prog X.w X.K tg J fp it tn/\tn 0 s2.heap/\(∀b∈fp,znE X pins H' b)/\R J H'
noncomputable def PI(X:Cx)(tg iter:Expr)(wi:TI):Prop :=
 ∀(pins:Z3) (s:Shared) (σ:St) (H:Hp) (R:It->Hp->Prop),Inv X pins σ H s->wi σ H R →
  wpAny (model X.prog X.w) X.A (eval iter X.env) (fun v s1=>wpAny (model X.prog X.w) X.A (pyIter v) (PIE X pins σ tg R) X.xe s1) X.xe s
def zmj {M : Model} {A : Around} {E : Z5} {s : Shared} {tg : Expr} {it : Addr} {u : Value} {o : Obj} {n : String} {vs : Array Value} {Q : Unit -> Shared -> Prop} (ho : s.heap.get? it = some o) (hc : o.cls = .type n) (hd : o.data = .fields vs)
    (hn : ["enumerate", "zip", "dict_itemiterator", "dict_reverseitemiterator", "odict_iterator", "itertools.zip_longest", "itertools.pairwise"].contains n = false) (hQ : Q () s) : wpAny M A (letOwnedTupleGo tg (.ref it) u) Q E s := by
  unfold letOwnedTupleGo
  cases tg <;> first
    | exact yac hQ
    | (cases u <;> first
        | exact yac hQ
        | (refine yaa (wpAny_load ho ?_)
           rw [hc, hd];show wpAny M A (if (["enumerate", "zip", "dict_itemiterator", "dict_reverseitemiterator", "odict_iterator", "itertools.zip_longest", "itertools.pairwise"].contains n && vs[0]? == some (rawInt _)) = true then _ else _) Q E s;rw [if_neg (by intro h; rw [hn, Bool.false_and] at h; cases h)]
           exact yac hQ))
noncomputable def Itl(K:PySem.W.Frag)(a:Addr):It :=
 ⟨fun i H=>∃xs x,SqL K H a xs/\xs[i]?=some x,fun i H x H'=>H'=H/\∀xs,SqL K H a xs->xs[i]?=some x,fun i H=>∃xs,SqL K H a xs/\xs.length<=i⟩
noncomputable def Itt(K:PySem.W.Frag)(a:Addr):It :=
 ⟨fun i H=>∃xs x,SqT K H a xs/\xs[i]?=some x,fun i H x H'=>H'=H/\∀xs,SqT K H a xs->xs[i]?=some x,fun i H=>∃xs,SqT K H a xs/\xs.length<=i⟩
noncomputable def Itr(lo:Int)(n:Nat):It:=⟨fun i _=>i<n,fun i H x H'=>H'=H/\x=.int (lo+i),fun i _=>n<=i⟩
def zi6{P:Program}{w:World}{K:PySem.W.Frag}{tg:Expr}(a it:Addr):Turn P w K tg (Itl K a) [it] it (fun i h=>h.IsListIter it a i) where
 mem:=by simp
 obj:=fun i h st b hb=>by
  have e:b=it:=by simpa using hb
  subst e;obtain ⟨o,e,c,d⟩:=st;exact ⟨o,e,fun v z=>by rw [d] at z;cases z⟩
 keep:=fun i h h' st k=>st.at fun o e=>k it (by simp) o e
 item:=by
  intro X hP hw hK hc i pins s σ H E I hf st hg;subst hP hw hK;obtain ⟨xs,x,hq,hx⟩:=hg;obtain ⟨its,rv,p,hz⟩:=I.list hq;obtain ⟨u,hu,ru⟩:=rv.get hx;obtain ⟨f0,f1,f2,f3,f4,f5⟩:=hf it (by simp);refine wpAny_pyNext_list_item st p.isList (x:=u) (by simpa using hu) fun h' st' sb=>?_
  have I1:Inv X pins σ H { s with heap:=h' }:=I.turned (t':=s.toks) (fun b o hb e=>(sb.2 b hb).trans e) f0 f1 f3 f4 f5;obtain ⟨o,e,c,d⟩:=id st';exact ⟨u,rfl,zmj (s:={ s with heap:=h' }) e c d (by decide) ⟨x,H,I1,ru,⟨rfl,fun ys hy=>by rw [I.list_inj hy hq];exact hx⟩,st',fun b hb=>(hf b hb).1⟩⟩
 done:=by
  intro X hP hw hK hc i pins s σ H E I hf st hg;subst hP hw hK;obtain ⟨xs,hq,hx⟩:=hg;obtain ⟨its,rv,p,hz⟩:=I.list hq;obtain ⟨f0,f1,f2,f3,f4,f5⟩:=hf it (by simp);have hl:=rv.length;exact wpAny_pyNext_list_end (I.ok.hd hc) st p.isList (by simp;omega) fun h' eb=>⟨rfl,I.turned (t':=s.toks) (fun b o hb e=>eb b o hb e) f0 f1 f3 f4 f5⟩
 self:=fun _ _ _ _ _ st h=>wpAny_pyIter_listiter st h
def zij{P:Program}{w:World}{K:PySem.W.Frag}{tg:Expr}(a it:Addr):Turn P w K tg (Itt K a) [it] it (fun i h=>h.IsTupleIter it a i) where
 mem:=by simp
 obj:=fun i h st b hb=>by
  have e:b=it:=by simpa using hb
  subst e;obtain ⟨o,e,c,d⟩:=st;exact ⟨o,e,fun v z=>by rw [d] at z;cases z⟩
 keep:=fun i h h' st k=>st.at fun o e=>k it (by simp) o e
 item:=by
  intro X hP hw hK hc i pins s σ H E I hf st hg;subst hP hw hK;obtain ⟨xs,x,hq,hx⟩:=hg;obtain ⟨its,rv,p,hz⟩:=I.tuple hq;obtain ⟨u,hu,ru⟩:=rv.get hx;obtain ⟨f0,f1,f2,f3,f4,f5⟩:=hf it (by simp);refine wpAny_pyNext_tuple_item st (show s.heap.IsTuple a its.toArray from p) (x:=u) (by simpa using hu) fun h' st' sb=>?_
  have I1:Inv X pins σ H { s with heap:=h' }:=I.turned (t':=s.toks) (fun b o hb e=>(sb.2 b hb).trans e) f0 f1 f3 f4 f5;obtain ⟨o,e,c,d⟩:=id st';exact ⟨u,rfl,zmj (s:={ s with heap:=h' }) e c d (by decide) ⟨x,H,I1,ru,⟨rfl,fun ys hy=>by rw [I.tuple_inj hy hq];exact hx⟩,st',fun b hb=>(hf b hb).1⟩⟩
 done:=by
  intro X hP hw hK hc i pins s σ H E I hf st hg;subst hP hw hK;obtain ⟨xs,hq,hx⟩:=hg;obtain ⟨its,rv,p,hz⟩:=I.tuple hq;obtain ⟨f0,f1,f2,f3,f4,f5⟩:=hf it (by simp);have hl:=rv.length;exact wpAny_pyNext_tuple_end (I.ok.hd hc) st (show s.heap.IsTuple a its.toArray from p) (by simp;omega) fun h' eb=>⟨rfl,I.turned (t':=s.toks) (fun b o hb e=>eb b o hb e) f0 f1 f3 f4 f5⟩
 self:=fun _ _ _ _ _ st h=>wpAny_pyIter_tupleiter st h
def zik{P:Program}{w:World}{K:PySem.W.Frag}{tg:Expr}(it:Addr)(lo:Int)(n:Nat):Turn P w K tg (Itr lo n) [it] it (fun i h=>IsRangeIter h it (lo+(i:Nat)*1) ((n:Int)-(i:Nat)) 1) where
 mem:=by simp
 obj:=fun i h st b hb=>by
  have e:b=it:=by simpa using hb
  subst e
  exact ⟨_,st,fun v z=>by
   have z':Data.fields _=Data.cell v:=z
   cases z'⟩
 keep:=fun i h h' st k=>k it (by simp) _ st
 item:=by
  intro X hP hw hK hc i pins s σ H E I hf st hg;subst hP hw hK;obtain ⟨f0,f1,f2,f3,f4,f5⟩:=hf it (by simp);have W:=Walks.range (prog:=X.prog) (w:=X.w) (I.ok.hd hc) it lo 1 n;refine W.item i s _ _ hg st fun v h' tk hv st' kk=>?_
  obtain ⟨t,rfl⟩:=hv;have I1:Inv X pins σ H { s with heap:=h',toks:=tk }:=I.turned (fun b o hb e=>kk b o (by simpa using hb) e) f0 f1 f3 f4 f5;refine ⟨_,rfl,zmj (s:={ s with heap:=h',toks:=tk }) (n:="range_iterator") st' rfl rfl (by decide) ⟨.int (lo+i),H,I1,⟨t,?_⟩,⟨rfl,rfl⟩,st',fun b hb=>(hf b hb).1⟩⟩;rw [Int.mul_one]
 done:=by
  intro X hP hw hK hc i pins s σ H E I hf st hg;subst hP hw hK;obtain ⟨f0,f1,f2,f3,f4,f5⟩:=hf it (by simp);exact wpAny_pyNext_range_end (I.ok.hd hc) st (by have:n<=i:=hg;omega) fun h' eb=>⟨rfl,I.turned (t':=s.toks) (fun b o hb e=>eb b o hb e) f0 f1 f3 f4 f5⟩
 self:=fun _ _ _ _ _ st h=>wpAny_pyIter_rangeiter st h
end L2
namespace L2
open PySem PySem.Spec PyProof.Rows
section
variable{X:Cx}{tg:Expr}
noncomputable def zup(K:PySem.W.Frag)(tl:TE):TI:=fun σ H R=>tl σ H fun x H1=>∃a,x=.ref a/\(∃xs,SqL K H1 a xs)/\R (Itl K a) H1
noncomputable def zyB(K:PySem.W.Frag)(tl:TE):TI:=fun σ H R=>tl σ H fun x H1=>∃a,x=.ref a/\(∃xs,SqT K H1 a xs)/\R (Itt K a) H1
def zow{l:Expr}{tl:TE}(hl:PE X l tl):PI X tg l (zup X.K tl):=by
 intro pins s σ H R I h;refine thn (hl pins s σ H _ I h) fun v s1 ⟨x,H1,I1,r1,q1⟩=>?_
 obtain ⟨a,e,⟨xs,hq⟩,q⟩:=q1;subst e;cases r1;obtain ⟨its,rv,p,hz⟩:=I1.list hq;refine ycb p.isList ?_;refine ⟨s1.heap.objs.size,[s1.heap.objs.size],_,_,H1,rfl,I1.kept (t':=s1.toks) fun b o e=>yae _ e,zi6 a _,⟨_,yak _ rfl,rfl,rfl⟩,fun b hb=>?_,q⟩
 have e:b=s1.heap.objs.size:=by simpa using hb
 subst e;exact I1.fpOk (yah _) (I1.hok.fresh (yah _))
def zqX{l:Expr}{tl:TE}(hl:PE X l tl):PI X tg l (zyB X.K tl):=by
 intro pins s σ H R I h;refine thn (hl pins s σ H _ I h) fun v s1 ⟨x,H1,I1,r1,q1⟩=>?_
 obtain ⟨a,e,⟨xs,hq⟩,q⟩:=q1;subst e;cases r1;obtain ⟨its,rv,p,hz⟩:=I1.tuple hq;refine wpAny_pyIter_tuple (show s1.heap.IsTuple a its.toArray from p) ?_;refine ⟨s1.heap.objs.size,[s1.heap.objs.size],_,_,H1,rfl,I1.kept (t':=s1.toks) fun b o e=>yae _ e,zij a _,⟨_,yak _ rfl,rfl,rfl⟩,fun b hb=>?_,q⟩
 have e:b=s1.heap.objs.size:=by simpa using hb
 subst e;exact I1.fpOk (yah _) (I1.hok.fresh (yah _))
def zhG{pins:Z3}{σ:St}{H:Hp}{s:Shared}{R:It->Hp->Prop}{E:Z5}{lo hi:Int}{t u v:Tok}{tk:Nat}(I:Inv X pins σ H s)(h1:-(2 ^ 62)<=lo)(h2:lo<2 ^ 62)(h3:-(2 ^ 62)<=hi)(h4:hi<2 ^ 62)
  (q:R (Itr lo (hi-lo).toNat) H):wpAny (model X.prog X.w) X.A (pyIter (.ref s.heap.objs.size)) (PIE X pins σ tg R) E { s with heap:=s.heap.push { cls:=.type "range",data:=.fields #[.int lo t,.int hi u,.int 1 v] },toks:=tk }:=by
 refine wpAny_pyIter_range (IsRange.new ..) (small_one h1 h2 h3 h4) ?_;have I1:Inv X pins σ H { s with heap:=s.heap.push { cls:=.type "range",data:=.fields #[.int lo t,.int hi u,.int 1 v] },toks:=tk }:=I.kept fun b o e=>yae _ e
 refine ⟨(s.heap.push { cls:=.type "range",data:=.fields #[.int lo t,.int hi u,.int 1 v] }).objs.size,[(s.heap.push { cls:=.type "range",data:=.fields #[.int lo t,.int hi u,.int 1 v] }).objs.size],_,_,H,rfl,
  I1.kept (t':=tk) fun b o e=>yae _ e,zik _ lo (hi-lo).toNat,?_,fun b hb=>?_,q⟩
 ·have e1:lo+((0:Nat):Int)*1=lo:=by simp
  have e2:(((hi-lo).toNat:Nat):Int)-((0:Nat):Int)=Builtin.Range.rangeSize lo hi 1:=by rw [rangeSize_one];split<;>omega
  show IsRangeIter _ _ (lo+((0:Nat):Int)*1) ((((hi-lo).toNat:Nat):Int)-((0:Nat):Int)) 1;rw [e1,e2];exact yak _ rfl
 ·have e:b=(s.heap.push { cls:=.type "range",data:=.fields #[.int lo t,.int hi u,.int 1 v] }).objs.size:=by simpa using hb
  subst e;exact I1.fpOk (yah _) (I1.hok.fresh (yah _))
noncomputable def zuo(ta:TA):TI:=fun σ H R=>ta σ H fun vs H1=>∃j:Int,vs=[.int j]/\-(2 ^ 62)<=j/\j<2 ^ 62/\R (Itr 0 j.toNat) H1
noncomputable def zun(ta:TA):TI:=fun σ H R=>ta σ H fun vs H1=>∃i j:Int,vs=[.int i,.int j]/\(-(2 ^ 62)<=i/\i<2 ^ 62/\-(2 ^ 62)<=j/\j<2 ^ 62)/\R (Itr i (j-i).toNat) H1
def zjN{a:Expr}{ta:TA}{p pos:Pos}(hg:Gl X "range")(hm:X.mg "range" = none)(ha:PA X [a] ta)(hs:starEach [a] X.env=[(false,eval a X.env)]:=by rfl):PI X tg (.Call (.Name "range" p) [a] [] pos) (zuo ta):=by
 intro pins s σ H R I h;refine Call_ (zdO I hg hm boot_range (ya6 (thn (ha pos pins s σ H _ I h) fun us s1 ⟨vs,H1,I1,r1,q1⟩=>?_) hs rfl));obtain ⟨j,e,q1,q2,q⟩:=q1;subst e
 cases r1 with
 | cons r rr =>
  cases rr;obtain ⟨t,rfl⟩:=r;exact call_range_1 (zhG I1 (by omega) (by omega) q1 q2 (by simpa using q))
def zjM{a b:Expr}{ta:TA}{p pos:Pos}(hg:Gl X "range")(hm:X.mg "range" = none)(ha:PA X [a,b] ta)(hs:starEach [a,b] X.env=[(false,eval a X.env),(false,eval b X.env)]:=by rfl)(hs2:starEach [b] X.env=[(false,eval b X.env)]:=by rfl) :
  PI X tg (.Call (.Name "range" p) [a,b] [] pos) (zun ta):=by
 intro pins s σ H R I h;refine Call_ (zdO I hg hm boot_range (ya6 (thn (ha pos pins s σ H _ I h) fun us s1 ⟨vs,H1,I1,r1,q1⟩=>?_) (by rw [hs,hs2]) (by rw [hs2];rfl)));obtain ⟨i,j,e,⟨q1,q2,q3,q4⟩,q⟩:=q1;subst e
 cases r1 with
 | cons r rr =>
  cases rr with
  | cons r' rr =>
   cases rr;obtain ⟨t,rfl⟩:=r;obtain ⟨t',rfl⟩:=r';exact call_range_2 (zhG I1 q1 q2 q3 q4 q)
noncomputable def zxL(wi:TI)(g:TG)(tb:TS):TS:=fun D σ H=>wi σ H fun J H1=>∃W:Nat->Nat->St->Hp->Prop,(∃m,W 0 m σ H1)/\∀i m σ H,W i m σ H →
 (J.stop i H/\D.nx σ H)\/(J.go i H/\∃N:St->Hp->Prop,(∀σ' H',N σ' H'->∃m',m'<m/\W (i+1) m' σ' H')/\∀x H',J.yld i H x H'->g x σ H' fun σ2 H2=>tb { D with nx:=N,ct:=N,bk:=D.nx } σ2 H2)
noncomputable def zgf(fp:List Addr)(h:Heap):List (Addr×Obj):=fp.filterMap fun b=>(h.get? b).map fun o=>(b,o)
def zcz{fp:List Addr}{h:Heap}{b:Addr}{o:Obj}(hb:b∈fp)(e:h.get? b=some o):(b,o)∈zgf fp h:=yb2.mpr ⟨b,hb,by rw [e];rfl⟩
def zjY{fp:List Addr}{h:Heap}{p:Addr×Obj}(hp:p∈zgf fp h):p.1∈fp/\h.get? p.1=some p.2:=by
 obtain ⟨b,hb,e⟩:=yb2.mp hp
 cases q:h.get? b with
 | none=>rw [q] at e;cases e
 | some o =>
  rw [q] at e;have e':(b,o)=p:=Option.some.inj e;subst e';exact ⟨hb,q⟩
def Inv.pinned{pins:Z3}{σ:St}{H:Hp}{s:Shared}{fp:List Addr}(I:Inv X pins σ H s)(hf:∀b∈fp,znE X pins H b)(ho:∀b∈fp,∃o,s.heap.get? b=some o/\∀v,o.data≠.cell v):Inv X (pins++zgf fp s.heap) σ H s :=
 I.pins_of fun p hp=>(ybo.mp hp).elim (fun z=>I.pin p (yaF _ z)) fun z=>by
  obtain ⟨hb,e⟩:=zjY z;obtain ⟨f0,f1,f2,_⟩:=hf p.1 hb;obtain ⟨o,e',d⟩:=ho p.1 hb;rw [e] at e';cases e';exact ⟨e,f0,f1,f2,d⟩
def Inv.unpinned{pins pl:Z3}{σ:St}{H:Hp}{s:Shared}(I:Inv X (pins++pl) σ H s):Inv X pins σ H s:=I.pins_of fun p hp=>I.pin p (yaF _ (ycR _ hp))
def zqU{iter:Expr}{body:List Stmt}{wi:TI}{g:TG}{tb:TS}{pos:Pos}(hp:PassesOwn (model X.prog X.w) X.A X.env X.xe)(hc:X.calm=true)(hi:PI X tg iter wi)(hg:PG X tg g)(hb:PSs X body tb)
  (hs:∀x,foldedSetIterable iter X.env x=pure x:=by intro _;rfl):PS X (.For tg iter body [] pos) (zxL wi g tb):=by
 intro pins s σ H D I h;refine wpAny_For (thn (hi pins s σ H _ I h) fun v s1 h1=>thn h1 fun itv s2 h2=>?_) hs;obtain ⟨it,fp,tn,J,H2,e,I2,T,st2,f2,W,⟨m0,w0⟩,turn⟩:=h2;subst e;have stat:∀{H':Hp},(∀b∈fp,H' b=none)->∀b∈fp,znE X pins H' b:=fun hn b hb=>⟨hn b hb,(f2 b hb).2⟩
 refine codeAny_forLoop_any (fun n s'=>∃i σ' H',Inv X pins σ' H' s'/\tn i s'.heap/\(∀b∈fp,H' b=none)/\W i n σ' H') ?_ m0 ⟨0,σ,H2,I2,st2,fun b hb=>(f2 b hb).1,w0⟩;rintro n s3 ⟨i,σ3,H3,I3,st3,fr3,w3⟩
 rcases turn i n σ3 H3 w3 with ⟨stop,qn⟩ | ⟨go,N,hN,step⟩
 ·refine ycs hp (thn (T.done X rfl rfl rfl hc i pins s3 σ3 H3 X.xe I3 (stat fr3) st3 stop) fun r s4 ⟨hr,I4⟩=>?_);subst hr;exact wpAny_execs_nil ⟨σ3,H3,I4,qn⟩
 ·refine ycs hp (thn (T.item X rfl rfl rfl hc i pins s3 σ3 H3 X.xe I3 (stat fr3) st3 go) fun r s4 ⟨u,hr,h4⟩=>?_);subst hr;refine ycs hp (thn h4 fun _ s5 ⟨x,H5,I5,r5,y5,st5,fr5⟩=>?_);have I5':=I5.pinned (stat fr5) (T.obj _ _ st5);refine ycs hp (thn (hg _ s5 σ3 H5 x u _ I5' r5 (step x H5 y5)) fun _ s6 ⟨σ6,H6,I6,q6⟩=>?_);refine ycs hp (thn (hb _ s6 σ6 H6 _ I6 q6) fun f s7 q7=>?_)
  have again:∀{σ7:St} {H7:Hp},Inv X (pins++zgf fp s5.heap) σ7 H7 s7->N σ7 H7->∃m,m<n/\∃i σ' H',Inv X pins σ' H' s7/\tn i s7.heap/\(∀b∈fp,H' b=none)/\W i m σ' H':=fun {σ7 H7} I7 n7=>by
   obtain ⟨m',hm,w7⟩:=hN σ7 H7 n7;refine ⟨m',hm,i+1,σ7,H7,I7.unpinned,T.keep _ _ _ st5 fun b hb o e=>(I7.pin (b,o) (yaF _ (yaF _ (zcz hb e)))).1,fun b hb=>?_,w7⟩;obtain ⟨o,e,d⟩:=T.obj _ _ st5 b hb;exact (I7.pin (b,o) (yaF _ (yaF _ (zcz hb e)))).2.1
  cases f with
  | next=>obtain ⟨σ7,H7,I7,n7⟩:=q7;exact again I7 n7
  | cont=>obtain ⟨σ7,H7,I7,n7⟩:=q7;exact again I7 n7
  | brk=>obtain ⟨σ7,H7,I7,q7⟩:=q7;exact ⟨σ7,H7,I7.unpinned,q7⟩
  | ret v=>obtain ⟨x7,σ7,H7,I7,r7,q7⟩:=q7;exact ⟨x7,σ7,H7,I7.unpinned,r7,q7⟩
end
end L2
namespace L2
open PySem PySem.Spec PyProof.Rows
noncomputable abbrev R2:=V->V->Hp->VK->Prop
noncomputable def OpR(X:Cx)(f:Value->Value->Sem Value)(r:R2):Prop :=
 ∀(pins:Z3) (s:Shared) (σ:St) (H:Hp) (x y:V) (v u:Value) (Q:VK),Inv X pins σ H s->zaE x v->zaE y u->r x y H Q →
  wpAny (model X.prog X.w) X.A (f v u) (EP X pins σ Q) X.xe s
noncomputable def UnR(X:Cx)(f:Value->Sem Value)(r:V->Hp->VK->Prop):Prop :=
 ∀(pins:Z3) (s:Shared) (σ:St) (H:Hp) (x:V) (v:Value) (Q:VK),Inv X pins σ H s->zaE x v->r x H Q →
  wpAny (model X.prog X.w) X.A (f v) (EP X pins σ Q) X.xe s
noncomputable def zc2(X:Cx)(f:Value)(r:List V->Hp->VK->Prop):Prop :=
 ∀(pins:Z3) (s:Shared) (σ:St) (H:Hp) (xs:List V) (us:List Value) (Q:VK),Inv X pins σ H s->Vals xs us->r xs H Q →
  wpAny (model X.prog X.w) X.A (call f us) (EP X pins σ Q) X.xe s
noncomputable def tOp(r:R2)(ta tb:TE):TE:=fun σ H Q=>ta σ H fun x H1=>tb σ H1 fun y H2=>r x y H2 Q
noncomputable def tUn(r:V->Hp->VK->Prop)(ta:TE):TE:=fun σ H Q=>ta σ H fun x H1=>r x H1 Q
noncomputable def rI(C:Int->Int->Prop)(g:Int->Int->V):R2:=fun x y H Q=>∃i j,x=.int i/\y=.int j/\C i j/\Q (g i j) H
noncomputable def rI0(g:Int->Int->V):R2:=fun x y H Q=>∃i j,x=.int i/\y=.int j/\Q (g i j) H
noncomputable def rU(g:Int->V):V->Hp->VK->Prop:=fun x H Q=>∃i,x=.int i/\Q (g i) H
section
variable{X:Cx}{a b c:Expr}{ta tb tc:TE}{pos:Pos}
def zuI(ha:PE X a ta)(hb:PE X b tb){pins:Z3}{s:Shared}{σ:St}{H:Hp}{R:V->V->Hp->Prop}(I:Inv X pins σ H s)
  (h:ta σ H fun x H1=>tb σ H1 fun y H2=>R x y H2) {Q:Z5} {f:Value->Value->Sem Value}
  (hf:∀v u s2 x y H2,Inv X pins σ H2 s2->zaE x v->zaE y u->R x y H2->wpAny (model X.prog X.w) X.A (f v u) Q X.xe s2) :
  wpAny (model X.prog X.w) X.A (eval a X.env) (fun v s₁=>wpAny (model X.prog X.w) X.A (eval b X.env) (fun u s₂=>wpAny (model X.prog X.w) X.A (f v u) Q X.xe s₂) X.xe s₁) X.xe s:=by
 refine thn (ha pins s σ H _ I h) fun v s1 ⟨x,H1,I1,r1,q1⟩=>?_
 refine thn (hb pins s1 σ H1 _ I1 q1) fun u s2 ⟨y,H2,I2,r2,q2⟩=>?_
 exact hf v u s2 x y H2 I2 r1 r2 q2
def zq0{op:Operator}{r:R2}(ho:OpR X (binaryOp op) r)(ha:PE X a ta)(hb:PE X b tb):PE X (.BinOp a op b pos) (tOp r ta tb):=by
 intro pins s σ H Q I h;exact wpAny_BinOp (zuI ha hb I h fun v u s2 x y H2 I2 rx ry q=>ho pins s2 σ H2 x y v u Q I2 rx ry q)
def ztM{op:UnaryOp}{r:V->Hp->VK->Prop}(ho:UnR X (unaryOp op) r)(ha:PE X a ta):PE X (.UnaryOp op a pos) (tUn r ta):=by
 intro pins s σ H Q I h;exact UnaryOp_ (thn (ha pins s σ H _ I h) fun v s1 ⟨x,H1,I1,r1,q1⟩=>ho pins s1 σ H1 x v Q I1 r1 q1)
def opI{f:Value->Value->Sem Value}{C:Int->Int->Prop}{g:Int->Int->Int}
  (rule:∀(i j:Int) (t u:Tok) (s:Shared) (Q:Z5) (E:Z5),C i j->Q (.int (g i j) s.toks) { s with toks:=s.toks+1 }->wpAny (model X.prog X.w) X.A (f (.int i t) (.int j u)) Q E s) :
  OpR X f (rI C fun i j=>.int (g i j)):=by
 intro pins s σ H x y v u Q I rx ry h;obtain ⟨i,j,rfl,rfl,hc,q⟩:=h;obtain ⟨t,rfl⟩:=rx;obtain ⟨t',rfl⟩:=ry;exact rule i j t t' s _ _ hc ⟨.int (g i j),H,I.tok _,⟨_,rfl⟩,q⟩
def zvY{f:Value->Value->Sem Value}{g:Int->Int->Int}
  (rule:∀(i j:Int) (t u:Tok) (s:Shared) (Q:Z5) (E:Z5),Q (.int (g i j) s.toks) { s with toks:=s.toks+1 }->wpAny (model X.prog X.w) X.A (f (.int i t) (.int j u)) Q E s) :
  OpR X f (rI0 fun i j=>.int (g i j)):=by
 intro pins s σ H x y v u Q I rx ry h;obtain ⟨i,j,rfl,rfl,q⟩:=h;obtain ⟨t,rfl⟩:=rx;obtain ⟨t',rfl⟩:=ry;exact rule i j t t' s _ _ ⟨.int (g i j),H,I.tok _,⟨_,rfl⟩,q⟩
def zsz{f:Value->Value->Sem Value}{g:Int->Int->Bool}
  (rule:∀(i j:Int) (t u:Tok) (s:Shared) (Q:Z5) (E:Z5),Q (.bool (g i j)) s->wpAny (model X.prog X.w) X.A (f (.int i t) (.int j u)) Q E s) :
  OpR X f (rI0 fun i j=>.bl (g i j)):=by
 intro pins s σ H x y v u Q I rx ry h;obtain ⟨i,j,rfl,rfl,q⟩:=h;obtain ⟨t,rfl⟩:=rx;obtain ⟨t',rfl⟩:=ry;exact rule i j t t' s _ _ ⟨.bl (g i j),H,I,rfl,q⟩
noncomputable def zyQ(i j:Int):Prop:=0<j/\j<1073741824
noncomputable def zu2(i j:Int):Prop:=(-(2 ^ 64)<i/\i<2 ^ 64)\/(-(2 ^ 64)<j/\j<2 ^ 64)
def zu2.ok{i j:Int}(h:zu2 i j):IntMulOk i j:=by
 rcases h with ⟨h1,h2⟩ | ⟨h1,h2⟩
 ·exact .of_left (intBits_le_64 h1 h2)
 ·exact .of_right (intBits_le_64 h1 h2)
def zrd:OpR X (binaryOp .Add) (rI0 fun i j=>.int (i+j)):=zvY fun _ _ _ _ _ _ _ q=>add_int q
def zq8:OpR X (binaryOp .Sub) (rI0 fun i j=>.int (i-j)):=zvY fun _ _ _ _ _ _ _ q=>sub_int q
def zq9:OpR X (binaryOp .Mult) (rI zu2 fun i j=>.int (i*j)):=opI fun _ _ _ _ _ _ _ hc q=>mul_int q hc.ok
def zoC:OpR X (binaryOp .FloorDiv) (rI zyQ fun i j=>.int (i / j)):=opI fun i j _ _ _ _ _ hc q=>by
 have h1:(0:Int)<j:=hc.1;have h2:j<1073741824:=hc.2;exact floordiv_int (by omega) (by rw [Int.fdiv_eq_ediv_of_nonneg i (by omega)];exact q) (.inl (PyProof.noPylong_small (by omega)))
def zra:OpR X (binaryOp .Mod) (rI (fun _ j=>0<j) fun i j=>.int (i % j)):=opI fun i j _ _ _ _ _ hc q=>by
 have h1:(0:Int)<j:=hc;exact mod_int' (by omega) (by rw [Int.fmod_eq_emod_of_nonneg i (by omega)];exact q)
def unI{f:Value->Sem Value}{g:Int->Int}
  (rule:∀(i:Int) (t:Tok) (s:Shared) (Q:Z5) (E:Z5),Q (.int (g i) s.toks) { s with toks:=s.toks+1 }->wpAny (model X.prog X.w) X.A (f (.int i t)) Q E s) :
  UnR X f (rU fun i=>.int (g i)):=by
 intro pins s σ H x v Q I rx h;obtain ⟨i,rfl,q⟩:=h;obtain ⟨t,rfl⟩:=rx;exact rule i t s _ _ ⟨.int (g i),H,I.tok _,⟨_,rfl⟩,q⟩
def zpM:UnR X (unaryOp .USub) (rU fun i=>.int (-i)):=unI fun _ _ _ _ _ q=>neg_int q
end
section
variable{X:Cx}{a b c:Expr}{ta tb tc:TE}{pos:Pos}
def zns{pins:Z3}{σ:St}{H:Hp}{s:Shared}{Q:VK}{k k':Bool}(I:Inv X pins σ H s)(q:Q (.bl k) H)(e:k=k'):EP X pins σ Q (.bool k') s:=by
 subst e;exact ⟨.bl k,H,I,rfl,q⟩
def ztR:OpR X (compareOp .Lt) (rI0 fun i j=>.bl (decide (i<j))):=zsz fun _ _ _ _ _ _ _ q=>lt_int q
def ztS:OpR X (compareOp .LtE) (rI0 fun i j=>.bl (decide (i<=j))):=zsz fun _ _ _ _ _ _ _ q=>le_int q
def ztT:OpR X (compareOp .Gt) (rI0 fun i j=>.bl (decide (j<i))):=zsz fun _ _ _ _ _ _ _ q=>gt_int q
def ztU:OpR X (compareOp .GtE) (rI0 fun i j=>.bl (decide (j<=i))):=zsz fun _ _ _ _ _ _ _ q=>ge_int q
def zrb:OpR X (compareOp .Is) (fun x y H Q=>y=.non/\Q (.bl (decide (x=.non))) H):=by
 intro pins s σ H x y v u Q I rx ry h;obtain ⟨rfl,q⟩:=h;cases ry;refine is_none_gen (zns I q ?_)
 cases x<;>first
  | (cases rx;rfl)
  | (obtain ⟨t,rfl⟩:=rx;rfl)
def zoB:OpR X (compareOp .IsNot) (fun x y H Q=>y=.non/\Q (.bl (!decide (x=.non))) H):=by
 intro pins s σ H x y v u Q I rx ry h;obtain ⟨rfl,q⟩:=h;cases ry;refine isnot_none_gen (zns I q ?_)
 cases x<;>first
  | (cases rx;rfl)
  | (obtain ⟨t,rfl⟩:=rx;rfl)
def zg7{op:CmpOp}{r:R2}(ho:OpR X (compareOp op) r)(ha:PE X a ta)(hb:PE X b tb)(hm:behindInMarks op b=false):PE X (.Compare a [op] [b] pos) (tOp r ta tb):=by
 intro pins s σ H Q I h;exact wpAny_Compare1 (zuI ha hb I h fun v u s2 x y H2 I2 rx ry q=>ho pins s2 σ H2 x y v u Q I2 rx ry q) hm
noncomputable def znL(t:TE):TT:=fun σ H Q=>t σ H fun x H'=>∃k,x=.bl k/\Q k H'
def zg6{op:CmpOp}{r:R2}(ho:OpR X (compareOp op) r)(ha:PE X a ta)(hb:PE X b tb)(hm:behindInMarks op b=false):PT X (.Compare a [op] [b] pos) (znL (tOp r ta tb)):=by
 intro pins s σ H Q I h
 refine wpAny_isTrue_Compare1 (thn (ha pins s σ H _ I h) fun v s1 ⟨x,H1,I1,r1,q1⟩=>thn (hb pins s1 σ H1 _ I1 q1) fun u s2 ⟨y,H2,I2,r2,q2⟩ =>
  thn (ho pins s2 σ H2 x y v u _ I2 r1 r2 q2) fun c s3 ⟨z,H3,I3,r3,k,e,q3⟩=>?_) hm
 subst e;cases r3;exact ybd ⟨H3,I3,q3⟩
noncomputable def zjh(r r':R2)(ta tb tc:TE):TE:=fun σ H Q=>ta σ H fun x H1=>tb σ H1 fun y H2=>r x y H2 fun z H3=>∃k,z=.bl k ∧
 (if k=true then tc σ H3 fun w' H4=>r' y w' H4 Q else Q (.bl false) H3)
def zlG{op op':CmpOp}{r r':R2}(ho:OpR X (compareOp op) r)(ho':OpR X (compareOp op') r')(ha:PE X a ta)(hb:PE X b tb)(hc:PE X c tc)
  (hm:lastMarks [op,op'] [b,c]=false:=by with_unfolding_all rfl):PE X (.Compare a [op,op'] [b,c] pos) (zjh r r' ta tb tc):=by
 intro pins s σ H Q I h
 refine Compare_chain (thn (ha pins s σ H _ I h) fun v s1 ⟨x,H1,I1,r1,q1⟩=>chain_link (thn (hb pins s1 σ H1 _ I1 q1) fun u s2 ⟨y,H2,I2,r2,q2⟩ =>
  thn (ho pins s2 σ H2 x y v u _ I2 r1 r2 q2) fun d s3 ⟨z,H3,I3,r3,k,e,q3⟩=>?_)) hm
 subst e;cases r3;refine ybd ?_
 cases k with
 | false=>exact ite_ff ⟨.bl false,H3,I3,rfl,q3⟩
 | true=>exact ite_tt (chain_last (thn (hc pins s3 σ H3 _ I3 q3) fun w' s4 ⟨z',H4,I4,r4,q4⟩=>ho' pins s4 σ H4 y z' u w' Q I4 r2 r4 q4))
def zls{op op':CmpOp}{r r':R2}(ho:OpR X (compareOp op) r)(ho':OpR X (compareOp op') r')(ha:PE X a ta)(hb:PE X b tb)(hc:PE X c tc)
  (hm:lastMarks [op,op'] [b,c]=false:=by with_unfolding_all rfl):PT X (.Compare a [op,op'] [b,c] pos) (znL (zjh r r' ta tb tc)):=by
 intro pins s σ H Q I h
 refine isTrue_chain (thn (ha pins s σ H _ I h) fun v s1 ⟨x,H1,I1,r1,q1⟩=>test_link (thn (hb pins s1 σ H1 _ I1 q1) fun u s2 ⟨y,H2,I2,r2,q2⟩ =>
  thn (ho pins s2 σ H2 x y v u _ I2 r1 r2 q2) fun d s3 ⟨z,H3,I3,r3,k,e,q3⟩=>?_)) hm
 subst e;cases r3;refine ybd ?_
 cases k with
 | false =>
  obtain ⟨k',e',q'⟩:=q3;cases e';exact ite_ff ⟨H3,I3,q'⟩
 | true =>
  refine ite_tt (test_last (thn (hc pins s3 σ H3 _ I3 q3) fun w' s4 ⟨z',H4,I4,r4,q4⟩=>thn (ho' pins s4 σ H4 y z' u w' _ I4 r2 r4 q4) fun d' s5 ⟨z2,H5,I5,r5,k2,e2,q5⟩=>?_));subst e2;cases r5;exact ybd ⟨H5,I5,q5⟩
def zgp:(sizeLine:Nat)<2 ^ 63:=by rw [ybB];decide
def ziz:OpR X (binaryOp .Add) (fun x y H Q=>∃i j,x=.str i/\y=.str j/\i.length+j.length<=sizeLine/\Q (.str (i++j)) H):=by
 intro pins s σ H x y v u Q I rx ry h;obtain ⟨i,j,rfl,rfl,hz,q⟩:=h;obtain ⟨t,rfl⟩:=rx;obtain ⟨t',rfl⟩:=ry;exact add_str (fun t' tk=>⟨.str (i++j),H,I.tok _,⟨_,rfl⟩,q⟩) hz
def zeG{x:V}{us:List Value}(r:Vals [x] us):∃u,us=[u]/\zaE x u:=by
 cases r with
 | cons r1 r2=>cases r2;exact ⟨_,rfl,r1⟩
end
end L2
namespace L2
open PySem PySem.Spec PyProof.Rows
structure ObjM(h:Heap)(x dx C:Addr)(mA:Z6):Prop where
 obj:h.get? x=some (PySem.W.instObj C dx)
 ns:h.Ns1 dx mA
 ne:dx≠x
def zj9{h:Heap}{dx:Addr}{mA:Z6}(n:h.Ns1 dx mA):∃od,h.get? dx=some od/\∀name,PySem.W.lookIn name od=some (mA name):=by
 obtain ⟨o,es,ep,ho,hd,hk,_,hm⟩:=n;refine ⟨o,ho,fun name=>?_⟩;have e:=hm name;unfold nsFind findBy at e;rw [<-Array.find?_toList] at e;unfold PySem.W.lookIn;rw [hd];dsimp only;split
 ·rename_i y q;rw [q] at e;exact congrArg some e
 ·rename_i q;rw [q] at e
  have a:es.toList.any (·.refKey)=false:=by
   rw [List.any_eq_false];intro y hy;obtain ⟨z,t,hkey⟩:=hk y (Array.mem_toList_iff.mp hy);simp [DictEntry.refKey,hkey]
  have a':¬ es.toList.any (·.refKey)=true:=by rw [a];exact yaU
  rw [if_neg a'];exact congrArg some e
def ObjM.look{h:Heap}{x dx C:Addr}{mA:Z6}(I:ObjM h x dx C mA):∃od,PySem.W.InstAt h x (PySem.W.instObj C dx) C (some od)/\∀name,PySem.W.lookIn name od=some (mA name) :=
 let ⟨od,ho,hl⟩:=zj9 I.ns
 ⟨od,⟨I.obj,rfl,rfl,ho⟩,hl⟩
section
variable{prog:Program}{w:World}{A:Around}{E:Z5}{s:Shared}{K:PySem.W.Frag}{x dx C f:Addr}{mA:Z6}{name:Str}{v:Value}
def zo7{expr:Bool}{Q:Z5}(X:K.In s.heap)(I:ObjM s.heap x dx C mA)(hg:PySem.W.plainGet K C name=true)(hh:PySem.W.hasDictIn K C=true)
  (ha:PySem.W.findIn K (.ref C) name=some none) (hv:mA name=some v) (hv':PySem.W.handedIn v=true) (h:Q v { s with toks:=s.toks+1 }) :
  wpAny (model prog w) A (getAttr (.ref x) name expr) Q E s:=by
 obtain ⟨od,J,hl⟩:=I.look;exact PySem.W.get_value X J (ycY hg).1 (PySem.W.findObj_own hh ha rfl (by rw [hl,hv])) hv' h
def zmk{pl:Sem Bool}{Q:Value×List Value->Shared->Prop}(X:K.In s.heap)(I:ObjM s.heap x dx C mA)(hg:PySem.W.plainGet K C name=true)
  (hf:PySem.W.findIn K (.ref C) name=some (some (.ref f))) (ht:PySem.W.isFn K (.ref f)=true) (hv:mA name=none) (h:Q (.ref f,[.ref x]) s) :
  wpAny (model prog w) A (getMethod (.ref x) name pl) Q E s:=by
 obtain ⟨od,J,hl⟩:=I.look;exact PySem.W.method_fn X J (ycY hg).1 (ycY hg).2 hf (ycW.mp ht) (by show (PySem.W.lookIn name od).map (·.isSome)=some false;rw [hl,hv];rfl) h
def zn9{ns:List Str}{Q:Unit->Shared->Prop}(X:K.In s.heap)(I:ObjM s.heap x dx C mA)
  (hs:PySem.W.findIn K (.ref C) "__setattr__" = some (some (.builtin "object.__setattr__"))) (hp:PySem.W.plainOver K C=true) (ht:PySem.W.takerIn K C name=some none) (hh:PySem.W.hasDictIn K C=true)
  (hw:PySem.Within mA ns) (hsz:ns.length<=sizeLine)
  (h:∀h',ObjM h' x dx C (fun y=>if y=name then some v else mA y)->Heap.SameBut dx s.heap h'->Q () { s with heap:=h',toks:=s.toks+2 }) :
  wpAny (model prog w) A (setAttr (.ref x) name v) Q E s:=by
 obtain ⟨od,J,hl⟩:=I.look;refine PySem.W.set_plain X J hs (PySem.W.osa_open (s:={ s with toks:=s.toks+1 }) (r:=none) X J hp ht fun b=>?_);obtain ⟨cd,hc,hd'⟩:=PySem.W.any_some hh;have hx:s.heap.get? x=some ⟨.ref C,some dx,.plain,#[]⟩:=I.obj;refine yaa (yac (yaa (yaa (wpAny_loadPart hx (yaa (PySem.W.Looks.here (s:={ s with toks:=s.toks+1 }) (PySem.W.looks_clsIn X hc) ?_))))));rw [hd'];refine yac (a:=some dx) (yaa (yac (yaa ?_)));refine wpAny_nsSet1 (s:={ s with toks:=s.toks+1 }) I.ns fun h' hn2 hs2=>?_
 obtain ⟨oD,esD,epD,hoD,hdD,hcD⟩:=hn2.count (PySem.Within.cons name v hw);refine yaa (wpAny_lookBehind hoD (by rw [hdD];exact pastItsLine_dict (yaq hcD (by rw [yap];omega))) ?_);exact yac (h _ ⟨(hs2.2 _ (Ne.symm I.ne)).trans I.obj,hn2,I.ne⟩ hs2)
def zlZ{R:Result->Shared->Prop}{vs:List Value}{kw:List (Str×Value)}(X:K.In s.heap)(hm:PySem.W.makesIn K C=true)
  (hi:PySem.W.findIn K (.ref C) "__init__" = some (some (.ref f))) (hf:PySem.W.typeIn K (.ref f)=some (.type "function"))
  (h:codeAny (model prog w) (A.under (.builtin "type.__call__" ⟨.ref C::vs,kw⟩)) (.call (.ref f) ⟨.ref (s.heap.objs.size+1)::vs,kw⟩) (PySem.W.InitBack (s.heap.objs.size+1) R)
   { s with heap:=(s.heap.push PySem.W.emptyDict).push (PySem.W.instObj C s.heap.objs.size) }) :
  codeAny (model prog w) A (.call (.ref C) ⟨vs,kw⟩) R s:=by
 obtain ⟨hh,g,d,t,os⟩:=s;exact PySem.W.make_core (PySem.W.makes_of X hm) (PySem.W.looks_findIn X hi) (fun self=>PySem.W.bind_fn X self hf) (.inl rfl) h
end
noncomputable def zcS(f:Str)(v:V):List (Str×V)->List (Str×V)
 | []=>[(f,v)]
 | (g,x)::r=>if g=f then (g,v)::r else (g,x)::zcS f v r
theorem zej(f g:Str)(v:V):∀fs:List (Str×V),(zcS f v fs).lookup g=if g=f then some v else fs.lookup g
 | []=>by
  show List.lookup g [(f,v)]=_
  by_cases h:g=f
  ·have hb:(g == f)=true:=ycW.mpr h;simp only [List.lookup,hb,if_pos h]
  ·have hb:(g == f)=false:=yaZ.mpr h;simp only [List.lookup,hb,if_neg h]
 | (k,x)::r=>by
  have ih:=zej f g v r;rw [show zcS f v ((k,x)::r)=(if k=f then (k,v)::r else (k,x)::zcS f v r) from rfl]
  by_cases hk:k=f
  ·rw [if_pos hk]
   by_cases h:g=k
   ·have hb:(g == k)=true:=ycW.mpr h;simp only [List.lookup,hb,if_pos (h.trans hk)]
   ·have hb:(g == k)=false:=yaZ.mpr h;simp only [List.lookup,hb,if_neg (fun e:g=f=>h (e.trans hk.symm))]
  ·rw [if_neg hk]
   by_cases h:g=k
   ·have hb:(g == k)=true:=ycW.mpr h;simp only [List.lookup,hb,if_neg (fun e:g=f=>hk (h.symm.trans e))]
   ·have hb:(g == k)=false:=yaZ.mpr h;simp only [List.lookup,hb];exact ih
theorem zem(f:Str)(v:V):∀fs:List (Str×V),f∈(zcS f v fs).map (·.1)/\∀g,g∈fs.map (·.1)->g∈(zcS f v fs).map (·.1)
 | []=>⟨by simp [zcS],fun g h=>by simp at h⟩
 | (k,x)::r=>by
  obtain ⟨i1,i2⟩:=zem f v r;rw [show zcS f v ((k,x)::r)=(if k=f then (k,v)::r else (k,x)::zcS f v r) from rfl]
  by_cases hk:k=f
  ·rw [if_pos hk];subst hk;exact ⟨by simp,fun g h=>by simpa using h⟩
  ·rw [if_neg hk];refine ⟨?_,fun g h=>?_⟩
   ·rw [yau];exact yaw _ i1
   ·rw [yau] at h ⊢
    rcases yat.mp h with e | e
    ·exact yat.mpr (.inl e)
    ·exact yaw _ (i2 g e)
theorem zel(f:Str)(v:V):∀fs:List (Str×V),(zcS f v fs).length<=fs.length+1
 | []=>by simp [zcS]
 | (k,x)::r=>by
  have ih:=zel f v r;rw [show zcS f v ((k,x)::r)=(if k=f then (k,v)::r else (k,x)::zcS f v r) from rfl]
  by_cases hk:k=f
  ·rw [if_pos hk,yap,yap];omega
  ·rw [if_neg hk,yap,yap];omega
def zgP.some_of{v:V}{o:Option Value}(r:zgP (some v) o):∃u,o=some u/\zaE v u:=by
 cases o with
 | none=>exact (show False from r).elim
 | some u=>exact ⟨u,rfl,r⟩
def zgP.none_of{o:Option Value}(r:zgP none o):o=none:=by
 cases o with
 | none=>rfl
 | some u=>exact (show False from r).elim
def zky{v:V}{u:Value}(r:zaE v u):PySem.W.handedIn u=true:=by
 cases v with
 | non=>cases (show u=Value.none from r);rfl
 | bl b=>cases (show u=Value.bool b from r);rfl
 | int i=>obtain ⟨t,e⟩:=(show ∃t,u=Value.int i t from r);cases e;rfl
 | str x=>obtain ⟨t,e⟩:=(show ∃t,u=Value.str x t from r);cases e;rfl
 | byt b=>obtain ⟨t,e⟩:=(show ∃t,u=Value.bytes b t from r);cases e;rfl
 | flt b=>obtain ⟨t,e⟩:=(show ∃t,u=Value.float b t from r);cases e;rfl
 | ref a=>cases (show u=Value.ref a from r);rfl
 | ty n=>cases (show u=Value.type n from r);rfl
section
variable{P:Program}{w:World}{H H':Hp}{h h':Heap}{a C dx:Addr}{fs fs':List (Str×V)}
def zfA(hok:HOk P w H h)(e:H a=some (.ins C dx fs)):∃mA,ObjM h a dx C mA/\(∀f,zgP (fs.lookup f) (mA f))/\PySem.Within mA (fs.map (·.1))/\fs.length<=1000/\H dx=some (.own a):=by
 obtain ⟨d,z,ne,ob,mA,n,r,q⟩:=(show za3 P w H h a (.ins C dx fs) from hok a _ e);exact ⟨mA,⟨ob,n,ne⟩,r,q,z,d⟩
end
structure Cls(K:PySem.W.Frag)(C:Addr):Prop where
 pg:PySem.W.plainGet K C Str.empty=true
 hd:PySem.W.hasDictIn K C=true
 po:PySem.W.plainOver K C=true
 sa:PySem.W.findIn K (.ref C) "__setattr__" = some (some (.builtin "object.__setattr__"))
def Cls.get{K:PySem.W.Frag}{C:Addr}(c:Cls K C)(f:Str):PySem.W.plainGet K C f=true:=c.pg
noncomputable def zcN(K:PySem.W.Frag)(C:Addr)(f:Str):Prop:=PySem.W.findIn K (.ref C) f=some none
def zcN.taker{K:PySem.W.Frag}{C:Addr}{f:Str}(n:zcN K C f):PySem.W.takerIn K C f=some none:=by
 unfold PySem.W.takerIn;rw [show PySem.W.findIn K (.ref C) f=some none from n];rfl
structure Meth(K:PySem.W.Frag)(C:Addr)(m:Str)(f:Addr):Prop where
 at_:PySem.W.findIn K (.ref C) m=some (some (.ref f))
 fn:PySem.W.isFn K (.ref f)=true
 kp:PySem.W.keepIn K (.ref f)=true
section
variable{X:Cx}{pins:Z3}{σ:St}{H:Hp}{s:Shared}{a C dx:Addr}{fs:List (Str×V)}{f:Str}{v:V}{A:Around}{E:Z5}
def ziI{b:Bool}{Q:Z5}(I:Inv X pins σ H s)(e:H a=some (.ins C dx fs))(c:Cls X.K C)(n:zcN X.K C f)(l:fs.lookup f=some v)
  (h:∀u s',Inv X pins σ H s'->zaE v u->Q u s'):wpAny (model X.prog X.w) A (getAttr (.ref a) f b) Q E s:=by
 obtain ⟨mA,O,r,_,_,_⟩:=zfA I.hok e;obtain ⟨u,hu,ru⟩:=zgP.some_of (v:=v) (o:=mA f) (by rw [<-l];exact r f);exact zo7 I.kIn O (c.get f) c.hd n hu (zky ru) (h u _ (I.tok _) ru)
def ze0{m:Str}{g:Addr}{pl:Sem Bool}{Q:Value×List Value->Shared->Prop}(I:Inv X pins σ H s)(e:H a=some (.ins C dx fs))(c:Cls X.K C)(k:Meth X.K C m g)(l:fs.lookup m=none)
  (h:Q (.ref g,[.ref a]) s):wpAny (model X.prog X.w) A (getMethod (.ref a) m pl) Q E s:=by
 obtain ⟨mA,O,r,_,_,_⟩:=zfA I.hok e;have hn:mA m=none:=zgP.none_of (by rw [<-l];exact r m);exact zmk I.kIn O (c.get m) k.at_ k.fn hn h
def zis{y:V}{u:Value}{Q:Unit->Shared->Prop}(I:Inv X pins σ H s)(e:H a=some (.ins C dx fs))(c:Cls X.K C)(n:zcN X.K C f)(hl:fs.length<1000)(ry:zaE y u)
  (h:∀s',Inv X pins σ (upd H a (.ins C dx (zcS f y fs))) s'->Q () s'):wpAny (model X.prog X.w) A (setAttr (.ref a) f u) Q E s:=by
 obtain ⟨mA,O,r,wi,_,ho⟩:=zfA I.hok e
 have hz:(fs.map (·.1)).length<=sizeLine:=by rw [yaf,ybB];omega
 refine zn9 I.kIn O c.sa c.po n.taker c.hd wi hz fun h' O' sb=>h _ ?_
 have hd:∃o,h'.get? dx=some o:=let ⟨o,_,_,e',_⟩:=O'.ns;⟨o,e'⟩
 refine I.write (x:=a) (e:=dx) (by rw [e];exact True.intro) (.inr ho) (fun b q hb z=>(sb.2 b hb).trans z) hd ?_;refine ⟨by rw [zag O.ne];exact ho,?_,O.ne,O'.obj,_,O'.ns,fun g=>?_,fun g hg=>?_⟩
 ·have:=zel f y fs;omega
 ·show zgP ((zcS f y fs).lookup g) (if g=f then some u else mA g);rw [zej]
  by_cases q:g=f
  ·rw [if_pos q,if_pos q];exact ry
  ·rw [if_neg q,if_neg q];exact r g
 ·by_cases q:g=f
  ·rw [q];exact (zem f y fs).1
  ·refine (zem f y fs).2 g (wi g fun z=>hg ?_);show (if g=f then some u else mA g)=none;rw [if_neg q];exact z
def Inv.made(I:Inv X pins σ H s):Inv X pins σ (upd (upd H s.heap.objs.size (.own (s.heap.objs.size+1))) (s.heap.objs.size+1) (.ins C s.heap.objs.size []))
  { s with heap:=(s.heap.push PySem.W.emptyDict).push (PySem.W.instObj C s.heap.objs.size) }:=by
 have e1:(s.heap.push PySem.W.emptyDict).get? s.heap.objs.size=some PySem.W.emptyDict:=yak s.heap rfl
 have e2:((s.heap.push PySem.W.emptyDict).push (PySem.W.instObj C s.heap.objs.size)).get? (s.heap.objs.size+1)=some (PySem.W.instObj C s.heap.objs.size):=by
  have:=yak (s.heap.push PySem.W.emptyDict) (o:=PySem.W.instObj C s.heap.objs.size) rfl
  rwa [ybL] at this
 have e3:(s.heap.push PySem.W.emptyDict).Ns s.heap.objs.size (fun _=>none):=⟨PySem.W.emptyDict,#[],_,e1,rfl,(fun e he=>absurd he (by simp)),fun _=>rfl⟩;have I1:=I.laid (a:=s.heap.objs.size) (o:=.own (s.heap.objs.size+1)) (h':=s.heap.push PySem.W.emptyDict) (t':=s.toks) (fun b u q=>yae _ q) (yah _) ⟨_,e1⟩;refine I1.laid (a:=s.heap.objs.size+1) (o:=.ins C s.heap.objs.size []) (t':=s.toks) (fun b u q=>yae _ q) (yc5 (ybL _ _)) ?_;have ne:s.heap.objs.size≠s.heap.objs.size+1:=yar (ybU _);refine ⟨by rw [zag ne,zam],yaL _,ne,e2,fun _=>none,(Heap.Ns1.of_empty e3).at fun o q=>yae _ q,fun _=>True.intro,fun y hy=>absurd rfl hy⟩
def zpp{prog:Program}{w:World}{env:Env}{e:Expr}{f:Str}{pos:Pos}{s:Shared}{Q:Z5}(hb:attributeBase e f env (eval e env)=eval e env)
  (h:wpAny (model prog w) A (eval e env) (fun o s₁=>wpAny (model prog w) A (getAttr o f true) Q E s₁) E s):wpAny (model prog w) A (eval (.Attribute e f pos) env) Q E s :=
 Attribute_any_ h (by rw [arm_eval_Attribute,hb])
end
noncomputable def zvO(K:PySem.W.Frag)(ta:TE)(f:Str):TE:=fun σ H Q=>ta σ H fun x H1=>∃a C dx fs v,x=.ref a/\H1 a=some (.ins C dx fs)/\Cls K C/\zcN K C f/\fs.lookup f=some v/\Q v H1
noncomputable def zxO(K:PySem.W.Frag)(ta tv:TE)(f:Str):TS:=fun D σ H=>tv σ H fun y H1=>ta σ H1 fun x H2=>∃a C dx fs,x=.ref a/\H2 a=some (.ins C dx fs)/\Cls K C/\zcN K C f/\fs.length<1000 ∧
 D.nx σ (upd H2 a (.ins C dx (zcS f y fs)))
noncomputable def zw8(X:Cx)(op:Operator)(rd:V->V->Hp->VK->Prop):Prop :=
 ∀(pins:Z3) (s:Shared) (σ:St) (H:Hp) (x y:V) (u v:Value) (Q:VK),Inv X pins σ H s->zaE x u->zaE y v->rd x y H Q->wpAny (model X.prog X.w) X.A (inplaceOp op u v) (EP X pins σ Q) X.xe s
section
variable{X:Cx}{o e value:Expr}{f:Str}{pos pos' tpos:Pos}{ta tv:TE}
def zgg(he:PE X e ta)(hb:attributeBase e f X.env (eval e X.env)=eval e X.env):PE X (.Attribute e f pos) (zvO X.K ta f):=by
 intro pins s σ H Q I h;refine zpp hb (thn (he pins s σ H _ I h) fun u s1 ⟨x,H1,I1,rx,a,C,dx,fs,v,ex,ea,c,n,l,q⟩=>?_);subst ex;obtain rfl:u=Value.ref a:=rx;exact ziI I1 ea c n l fun u' s2 I2 ru=>⟨v,H1,I2,ru,q⟩
def zm6(ha:PE X o ta)(hv:PE X value tv)(hs:swapsWith value (some (.Attribute o f pos')) pos.line X.env=pure false):PS X (.Assign [.Attribute o f pos'] value pos) (zxO X.K ta tv f):=by
 intro pins s σ H D I h;refine plainObj_wpAny_Assign_Attribute (thn (hv pins s σ H _ I h) fun u s1 ⟨y,H1,I1,ry,q⟩=>thn (ha pins s1 σ H1 _ I1 q) fun ov s2 ⟨x,H2,I2,rx,a,C,dx,fs,ex,ea,c,n,l,q2⟩=>?_) hs;subst ex;obtain rfl:ov=Value.ref a:=rx;exact zis I2 ea c n l ry fun s3 I3=>⟨σ,_,I3,q2⟩
noncomputable def zvT:V->V->Hp->VK->Prop:=fun x y H Q=>∃i j,x=.int i/\y=.int j/\Q (.int (i+j)) H
noncomputable def zvS:V->V->Hp->VK->Prop:=fun x y H Q=>∃i j,x=.int i/\y=.int j/\Q (.int (i-j)) H
def zrS:zw8 X .Add zvT:=by
 rintro pins s σ H x y u v Q I rx ry ⟨i,j,rfl,rfl,q⟩;obtain ⟨t,rfl⟩:=(show ∃t,u=Value.int i t from rx);obtain ⟨t',rfl⟩:=(show ∃t',v=Value.int j t' from ry);exact PyProof.Rows.iadd_int ⟨.int (i+j),H,I.tok _,⟨_,rfl⟩,q⟩
def zrR:zw8 X .Sub zvS:=by
 rintro pins s σ H x y u v Q I rx ry ⟨i,j,rfl,rfl,q⟩;obtain ⟨t,rfl⟩:=(show ∃t,u=Value.int i t from rx);obtain ⟨t',rfl⟩:=(show ∃t',v=Value.int j t' from ry);exact PyProof.Rows.isub_int ⟨.int (i-j),H,I.tok _,⟨_,rfl⟩,q⟩
end
section
variable{X:Cx}{pins:Z3}{σ:St}{H:Hp}{s:Shared}{A:Around}{E:Z5}{Q:Z5}{c:Value}{b:Bool}
inductive TyOf(K:PySem.W.Frag)(H:Hp):V->Value->Prop where
 | non:TyOf K H .non (.type "NoneType")
 | bl (x:Bool):TyOf K H (.bl x) (.type "bool")
 | int (i:Int):TyOf K H (.int i) (.type "int")
 | str (x:Str):TyOf K H (.str x) (.type "str")
 | flt (x:UInt64):TyOf K H (.flt x) (.type "float")
 | lst {a:Addr} {xs:List V} (e:H a=some (.lst xs)):TyOf K H (.ref a) (.type "list")
 | frz {a:Addr} {o:Obj} {xs:List V} (e:H a=some (.frz o (.lst xs))):TyOf K H (.ref a) (.type "list")
 | tup {a:Addr} {xs:List V} (e:H a=some (.tup xs)):TyOf K H (.ref a) (.type "tuple")
 | dK {a:Addr} {kvs:List (Key×V)} (e:H a=some (.dK kvs)):TyOf K H (.ref a) (.type "dict")
 | dT {a:Addr} {kvs:List (List Key×V)} (e:H a=some (.dT kvs)):TyOf K H (.ref a) (.type "dict")
 | ins {a C dx:Addr} {fs:List (Str×V)} (e:H a=some (.ins C dx fs)) (cl:Cls K C) (ha:PySem.W.findIn K (.ref C) "__class__" = some (some (.builtin "object.__class__")))
   (hn:PySem.W.specialIn K (.builtin "object.__class__") "__get__" = some (some (.builtin "getset_descriptor.__get__"))) (htk:PySem.W.takesIn K (.builtin "object.__class__")=some true)
   (hm:PySem.W.mroIn K C (.type "object")=some true):TyOf K H (.ref a) (.ref C)
def zkp{x:V}{u t:Value}(I:Inv X pins σ H s)(rx:zaE x u)(ty:TyOf X.K H x t)(e:PySem.W.kitOne X.K t c=some b)(h:∀tk,Q (.bool b) { s with toks:=tk }) :
  wpAny (model X.prog X.w) A (call (.builtin "isinstance") [u,c]) Q E s:=by
 cases ty with
 | non=>cases (show u=Value.none from rx);exact ya9 PySem.W.kitx_none I.kIn True.intro e (fun z=>nomatch z) h
 | bl y=>cases (show u=Value.bool y from rx);exact ya9 PySem.W.kitx_bool I.kIn True.intro e (fun z=>nomatch z) h
 | int i=>obtain ⟨t,q⟩:=(show ∃t,u=Value.int i t from rx);cases q;exact ya9 PySem.W.kitx_int I.kIn True.intro e (fun z=>nomatch z) h
 | str y=>obtain ⟨t,q⟩:=(show ∃t,u=Value.str y t from rx);cases q;exact ya9 PySem.W.kitx_str I.kIn True.intro e (fun z=>nomatch z) h
 | flt y=>obtain ⟨t,q⟩:=(show ∃t,u=Value.float y t from rx);cases q;exact ya9 PySem.W.kitx_float I.kIn True.intro e (fun z=>nomatch z) h
 | @lst a xs ea =>
  cases (show u=Value.ref a from rx);obtain ⟨_,_,n,_,h1⟩:=(show za3 X.prog X.w H s.heap a (.lst xs) from I.hok a _ ea);exact ya9 PySem.W.kitx_list I.kIn ⟨_,h1,rfl⟩ e (fun z=>nomatch z) h
 | @frz a ob xs ea =>
  cases (show u=Value.ref a from rx);obtain ⟨_,_,_,n,_,h1⟩:=(show za3 X.prog X.w H s.heap a (.frz ob (.lst xs)) from I.hok a _ ea);exact ya9 PySem.W.kitx_list I.kIn ⟨_,h1,rfl⟩ e (fun z=>nomatch z) h
 | @tup a xs ea =>
  cases (show u=Value.ref a from rx);obtain ⟨_,_,_,p⟩:=(show za3 X.prog X.w H s.heap a (.tup xs) from I.hok a _ ea);obtain ⟨o,h1,h2,_⟩:=p;exact ya9 PySem.W.kitx_tuple I.kIn ⟨o,h1,h2⟩ e (fun z=>nomatch z) h
 | @dK a kvs ea =>
  cases (show u=Value.ref a from rx);obtain ⟨_,_,vs,_,p⟩:=(show za3 X.prog X.w H s.heap a (.dK kvs) from I.hok a _ ea);obtain ⟨o,es,ep,h1,h2,_⟩:=p;exact ya9 PySem.W.kitx_dict I.kIn ⟨o,h1,h2.1⟩ e (fun z=>nomatch z) h
 | @dT a kvs ea =>
  cases (show u=Value.ref a from rx);obtain ⟨_,_,xs,_,o,es,ep,h1,h2,_⟩:=(show za3 X.prog X.w H s.heap a (.dT kvs) from I.hok a _ ea);exact ya9 PySem.W.kitx_dict I.kIn ⟨o,h1,h2.1⟩ e (fun z=>nomatch z) h
 | @ins a C dx fs ea cl ha hn htk hm =>
  cases (show u=Value.ref a from rx);obtain ⟨mA,O,_⟩:=zfA I.hok ea;obtain ⟨od,J,_⟩:=O.look;exact ya9 (PySem.W.kitx_own (cl.get _) cl.hd ha hn htk hm) I.kIn J e (fun z=>nomatch z) h
end
end L2
namespace L2
open PySem PySem.Spec PyProof.Rows
structure Room(k:Nat)(A:Around):Prop where
 hd:A.handled=none
 dp:A.depth+3*k+5<recursionLimit
 un:A.units+16*k+200<cLine
def Room.mono{j k:Nat}{A:Around}(r:Room k A)(h:j<=k):Room j A:=⟨r.hd,by have:=r.dp;omega,by have:=r.un;omega⟩
theorem Room.deeper{k:Nat}{A:Around}(r:Room (k+1) A)(env:Env):Room k (A.deeper env) :=
 ⟨r.hd,by have:=r.dp;show A.depth+1+3*k+5<_;omega,by have:=r.un;show A.units+3+16*k+200<_;omega⟩
def ziF{A:Around}{C:Addr}{us:List Value}{kw:List (Str×Value)}:(A.under (.builtin "type.__call__" ⟨.ref C::us,kw⟩)).depth=A.depth+1:=by
 first | rfl | simp [Around.under,Code.weight,Code.isCreation,Code.isGuard,Code.isCaller,Code.frames,Code.isFrame,guardIds]
def ziE{A:Around}{C:Addr}{us:List Value}{kw:List (Str×Value)}:(A.under (.builtin "type.__call__" ⟨.ref C::us,kw⟩)).units=A.units+1:=by
 first | rfl | simp [Around.under,Code.cUnits,Code.frames,Code.isFrame]
def Room.make{k:Nat}{A:Around}(r:Room (k+1) A)(C:Addr)(us:List Value)(kw:List (Str×Value)):Room k (A.under (.builtin "type.__call__" ⟨.ref C::us,kw⟩)) :=
 ⟨r.hd,by have:=r.dp;rw [ziF];omega,by have:=r.un;rw [ziE];omega⟩
theorem Room.depth{k:Nat}{A:Around}(r:Room k A):A.depth<recursionLimit:=by have:=r.dp;omega
theorem Room.units{k:Nat}{A:Around}(r:Room k A):A.units+64<cLine:=by have:=r.un;omega
noncomputable def zsv:TA:=fun _ H Q=>Q [] H
noncomputable def znM(ta:TE)(tr:TA):TA:=fun σ H Q=>ta σ H fun x H1=>tr σ H1 fun xs H2=>Q (x::xs) H2
section
variable{X:Cx}{e:Expr}{es:List Expr}{te:TE}{t:TA}{pos:Pos}
def zch:PA X [] zsv:=fun _ _ _ _ H Q I h=>ycG ⟨[],H,I,.nil,h⟩
def za9(ha:PE X e te)(hr:PA X es t)(hs:starEach (e::es) X.env=(false,eval e X.env)::starEach es X.env:=by rfl):PA X (e::es) (znM te t):=by
 intro pos pins s σ H Q I h;rw [hs];show wpAny _ _ (spliced ((false,eval e X.env)::backTo pos (starEach es X.env))) _ _ s;refine ybF (thn (ha pins s σ H _ I h) fun u s1 ⟨x,H1,I1,r1,q1⟩=>?_);exact thn (hr pos pins s1 σ H1 _ I1 q1) fun us s2 ⟨xs,H2,I2,r2,q2⟩=>⟨x::xs,H2,I2,.cons r1 r2,q2⟩
noncomputable def zxF(t:TA):TE:=fun σ H Q=>t σ H fun xs H1=>xs.length<=sizeLine/\∀p,H1 p=none->Q (.ref p) (upd H1 p (.tup xs))
noncomputable def zxJ(t:TA):TE:=fun σ H Q=>t σ H fun xs H1=>xs.length<=sizeLine/\∀p,H1 p=none->Q (.ref p) (upd H1 p (.lst xs))
def znb{x1}(h:PA X es t):PE X (.Tuple es x1 pos) (zxF t):=by
 intro pins s σ H Q I hq;refine wpAny_Tuple_spliced (thn (h pos pins s σ H _ I hq) fun us s1 ⟨xs,H1,I1,r,z,q⟩=>⟨by rw [<-r.length];exact z,?_⟩);have hf:H1 s1.heap.objs.size=none:=I1.hok.fresh (yah _);refine ⟨.ref s1.heap.objs.size,upd H1 s1.heap.objs.size (.tup xs),I1.laid (t':=s1.toks) (fun b u e=>yae _ e) (yah _) ?_,rfl,q _ hf⟩;exact ⟨z,us,r,⟨_,yak _ rfl,rfl,_,rfl⟩⟩
def znc(h:PA X es t):PE X (.List es pos) (zxJ t):=by
 intro pins s σ H Q I hq;refine wpAny_List_spliced (thn (h pos pins s σ H _ I hq) fun us s1 ⟨xs,H1,I1,r,z,q⟩=>⟨by rw [<-r.length];exact z,?_⟩);have hf:H1 s1.heap.objs.size=none:=I1.hok.fresh (yah _);refine ⟨.ref s1.heap.objs.size,upd H1 s1.heap.objs.size (.lst xs),I1.laid (t':=s1.toks) (fun b u e=>yae _ e) (yah _) ?_,rfl,q _ hf⟩;exact ⟨z,us,0,r,yak _ rfl⟩
end
noncomputable abbrev Sp:=List V->Hp->VK->XK->Prop
noncomputable abbrev CXT:=List Env->Hp->Shared->XK->Value->Shared->Prop
structure Env0(P:Program)(w:World)(K:PySem.W.Frag)(mg:Z6)(base:Heap)(A:Around)(outer:List Env)(s:Shared)(H:Hp):Prop where
 frames:A.frames=some outer
 mod:Mod K mg base
 bs:∀b o,base.get? b=some o->s.heap.get? b=some o/\H b=none
 bsz:base.objs.size<=s.heap.objs.size
 funs:s.heap.FunFrames base outer
 frf:∀b∈frs outer,H b=none
 hok:HOk P w H s.heap
 bare:AllBare s.gens
noncomputable def CE(outer:List Env)(P:Program)(w:World)(H:Hp)(s:Shared)(Q:VK)(u:Value)(s':Shared):Prop :=
 ∃v H',s'.os=s.os/\AllBare s'.gens/\Un (frs outer) [] H H' s.heap s'.heap/\HOk P w H' s'.heap/\zaE v u/\Q v H'
noncomputable def CR(CX:CXT)(outer:List Env)(P:Program)(w:World)(H:Hp)(s:Shared)(Q:VK)(E:XK)(r:Result)(s':Shared):Prop :=
 match r with
 | .ok (.ret u)=>CE outer P w H s Q u s'
 | .ok _=>False
 | .error e=>CX outer H s E e s'
structure FnOk(P:Program)(w:World)(K:PySem.W.Frag)(mg:Z6)(base:Heap)(CX:CXT)(k:Nat)(f:Addr)(fd:FuncData)(ps:List Str)(sp:Sp):Prop where
 len:∀vs H Q E,sp vs H Q E->vs.length=ps.length
 run:∀(A:Around) (outer:List Env) (s:Shared) (H:Hp) (args:Args) (us:List Value) (vs:List V) (Q:VK) (E:XK),Room k A->Env0 P w K mg base A outer s H->BindsTo s fd args (ps.zip us)->Vals vs us->sp vs H Q E →
  codeAny (model P w) A (.call (.ref f) args) (CR CX outer P w H s Q E) s
theorem FnOk.mono{P:Program}{w:World}{K:PySem.W.Frag}{mg:Z6}{base:Heap}{CX:CXT}{j k:Nat}{f:Addr}{fd:FuncData}{ps:List Str}{sp:Sp}(F:FnOk P w K mg base CX j f fd ps sp)(h:j<=k) :
  FnOk P w K mg base CX k f fd ps sp:=⟨F.len,fun A outer s H args us vs Q E hr=>F.run A outer s H args us vs Q E (hr.mono h)⟩
def FnOk.imp{P:Program}{w:World}{K:PySem.W.Frag}{mg:Z6}{base:Heap}{CX:CXT}{k:Nat}{f:Addr}{fd:FuncData}{ps:List Str}{sp sp':Sp}(F:FnOk P w K mg base CX k f fd ps sp)
  (h:∀vs H Q E,sp' vs H Q E->sp vs H Q E):FnOk P w K mg base CX k f fd ps sp' :=
 ⟨fun vs H Q E q=>F.len vs H Q E (h _ _ _ _ q),fun A outer s H args us vs Q E hr he hb hv hs=>F.run A outer s H args us vs Q E hr he hb hv (h _ _ _ _ hs)⟩
def Env0.make{P:Program}{w:World}{K:PySem.W.Frag}{mg:Z6}{base:Heap}{A:Around}{outer:List Env}{s:Shared}{H:Hp}(e:Env0 P w K mg base A outer s H)(C:Addr)(us:List Value)(kw:List (Str×Value)) :
  Env0 P w K mg base (A.under (.builtin "type.__call__" ⟨.ref C::us,kw⟩)) outer s H:=⟨by first | exact e.frames | (simpa [Around.under,Code.envs,Code.isFrame,pushEnvs] using e.frames),e.mod,e.bs,e.bsz,e.funs,e.frf,e.hok,e.bare⟩
section
variable{X:Cx}{pins:Z3}{σ:St}{H:Hp}{s s':Shared}
def Inv.env0(I:Inv X pins σ H s):Env0 X.prog X.w X.K X.mg X.base X.A X.stack s H :=
 ⟨I.ok.frames,I.ok.mod,I.bs,yaq I.ok.bsz I.sz,I.stack,I.stkFree,I.hok,I.bare⟩
def Inv.after{Q:VK}{u:Value}(I:Inv X pins σ H s)(h:CE X.stack X.prog X.w H s Q u s'):EP X pins σ Q u s':=by
 obtain ⟨v,H',os,bare,un,hok,r,q⟩:=h;obtain ⟨hh,g,d,t,os'⟩:=s';obtain rfl:os'=s.os:=os;exact ⟨v,H',I.call (h':=hh) (g':=g) (d':=d) (t':=t) (ch:=[]) un hok bare (fun b z=>absurd z (by simp)),r,q⟩
end
noncomputable def zcH(K:PySem.W.Frag)(fd:FuncData)(ps:List Str)(ds:List Value):Prop :=
 ∀(s:Shared) (us:List Value),K.In s.heap->(us++ds).length=ps.length->BindsTo s fd ⟨us,[]⟩ (ps.zip (us++ds))
def zcH.all{K:PySem.W.Frag}{fd:FuncData}{ps:List Str}(h:∀us:List Value,us.length=ps.length->bindArgs fd ⟨us,[]⟩=pure (ps.zip us)):zcH K fd ps []:=fun s us _ hl=>by
 rw [yaG] at hl ⊢;exact .of_eq (h us hl)
noncomputable def zso(CX:CXT)(X:Cx)(E:XK):Prop:=∀(pins:Z3) (σ:St) (H:Hp) (s:Shared) (e:Value) (s':Shared),Inv X pins σ H s->CX X.stack H s E e s'->X.xe e s'
section
variable{X:Cx}{CX:CXT}{k:Nat}{f C:Addr}{fd:FuncData}{ps:List Str}{sp:Sp}{dvs:List V}{ds:List Value}{E:XK}{x m:Str}{p pos apos:Pos}{e o:Expr}{es:List Expr}{ta:TE}{t:TA}
structure Mk(K:PySem.W.Frag)(C f:Addr):Prop where
 makes:PySem.W.makesIn K C=true
 init:PySem.W.findIn K (.ref C) "__init__" = some (some (.ref f))
 fn:PySem.W.isFn K (.ref f)=true
 kp:PySem.W.keepIn K (.ref C)=true
end
section
variable{X:Cx}{CX:CXT}{k:Nat}{f C:Addr}{fd:FuncData}{ps ks:List Str}{sp:Sp}{E:XK}{x m:Str}{p pos apos kpos:Pos}{e o:Expr}{es:List Expr}{kws:List Keyword}{te ta:TE}{t tk:TA}{nm:Option Str}
variable{g:List Value->List Value->List Value}{gV:List V->List V->List V}
end
structure FnScope(N P:List Str)(sc:Scope):Prop where
 kind:sc.kind=.function
 co:sc.isCoroutine=false
 gen:sc.isGenerator=false
 nd:N.Nodup
 pre:N.take P.length=P
 par:∀x∈P,sc.names.lookup x=some .local\/sc.names.lookup x=some .cell
 nofree:∀y∈sc.names,y.2≠.free
theorem zgF{kindOf:Str->Option NameKind}{x:Str}:∀{binds:List (Str×Value)} {m:Z6},(∀v,(x,v) ∉ binds)->bindL kindOf binds m x=m x
 | [],_,_=>rfl
 | (n,v)::r,m,h=>by
  unfold bindL;rw [zgF fun w hw=>h w (yaw _ hw)];split
  ·have:x≠n:=by rintro rfl;exact h v yaD
   simp [this]
  ·rfl
theorem zgH{kindOf:Str->Option NameKind}{x:Str}:∀{binds:List (Str×Value)} {m:Z6},(∀v,(x,v) ∉ binds)->bindC kindOf binds m x=m x
 | [],_,_=>rfl
 | (n,v)::r,m,h=>by
  unfold bindC;rw [zgH fun w hw=>h w (yaw _ hw)];split
  ·rfl
  ·have:x≠n:=by rintro rfl;exact h v yaD
   simp [this]
theorem zgG{kindOf:Str->Option NameKind}{x:Str}{v:Value}:∀{P:List Str} {vs:List Value} {i:Nat} {m:Z6},P.Nodup->P[i]?=some x->vs[i]?=some v->kindOf x=some .local →
  bindL kindOf (P.zip vs) m x=some v
 | [],_,_,_,_,h,_,_=>by simp at h
 | _::_,[],_,_,_,_,h,_=>by simp at h
 | p::P,w::vs,0,m,nd,h1,h2,hk=>by
  simp at h1 h2;subst h1;subst h2;show bindL kindOf ((p,w)::P.zip vs) m p=_;unfold bindL;rw [zgF fun v hv=>(ybp.mp nd).1 (List.of_mem_zip hv).1,if_pos hk];simp
 | p::P,w::vs,i+1,m,nd,h1,h2,hk=>by
  show bindL kindOf ((p,w)::P.zip vs) m x=_;unfold bindL;exact zgG (i:=i) (ybp.mp nd).2 (by simpa using h1) (by simpa using h2) hk
theorem zgI{kindOf:Str->Option NameKind}{x:Str}{v:Value}:∀{P:List Str} {vs:List Value} {i:Nat} {m:Z6},P.Nodup->P[i]?=some x->vs[i]?=some v->kindOf x≠some .local →
  bindC kindOf (P.zip vs) m x=some v
 | [],_,_,_,_,h,_,_=>by simp at h
 | _::_,[],_,_,_,_,h,_=>by simp at h
 | p::P,w::vs,0,m,nd,h1,h2,hk=>by
  simp at h1 h2;subst h1;subst h2;show bindC kindOf ((p,w)::P.zip vs) m p=_;unfold bindC;rw [zgH fun v hv=>(ybp.mp nd).1 (List.of_mem_zip hv).1,if_neg hk];simp
 | p::P,w::vs,i+1,m,nd,h1,h2,hk=>by
  show bindC kindOf ((p,w)::P.zip vs) m x=_;unfold bindC;exact zgI (i:=i) (ybp.mp nd).2 (by simpa using h1) (by simpa using h2) hk
noncomputable def zfb(N:List Str)(vs:List V):St:=vs.map some++List.replicate (N.length-vs.length) none
noncomputable def zk9(CX:CXT)(P:Program)(w:World)(K:PySem.W.Frag)(mg:Z6)(base:Heap)(N:List Str)(qual:Str)(scope:Scope)(f:Addr)(cd:Value)(A:Around)(outer:List Env)(s:Shared)(H:Hp)(E:XK):Cx where
 prog:=P
 w:=w
 K:=K
 mg:=mg
 base:=base
 A:=A.deeper (envOfC qual scope s.heap.objs.size f cd)
 N:=N
 s₀:=s
 H₀:=H
 env:=envOfC qual scope s.heap.objs.size f cd
 outer:=outer
 stack:=envOfC qual scope s.heap.objs.size f cd::outer
 ex:=[]
 calm:=true
 fn:=fun _=>true
 pn:=[]
 xe:=fun e s'=>wpAny (model P w) (A.deeper (envOfC qual scope s.heap.objs.size f cd)) (leaving (envOfC qual scope s.heap.objs.size f cd) e) (fun _ s''=>CX outer H s E e s'') (fun e' s''=>CX outer H s E e' s'') s'
def zia{sc:Scope}{n:Nat}{x:Str}(h:sc.names.lookup x=some .cell):∃c,(cellsFrom n sc.names []).lookup x=some c:=by
 have q:=PySem.W.cellsFrom_some sc.names n [] (.inl h);exact ycp.mp q
def zkt{CX:CXT}{P:Program}{w:World}{K:PySem.W.Frag}{mg:Z6}{base:Heap}{N ps:List Str}{qual:Str}{scope:Scope}{f:Addr}{cd:Value}{A:Around}{outer:List Env}{s s1:Shared}{H:Hp}{E:XK}{us:List Value}{vs:List V}
  (S:FnScope N ps scope) (hd:A.handled=none) (e0:Env0 P w K mg base A outer s H) (hl:vs.length=ps.length) (r:Vals vs us)
  (x:InCallC s s.heap.objs.size (bindL (envOfC qual scope s.heap.objs.size f cd).kindOf (ps.zip us) fun _=>none) (cellsFrom (s.heap.objs.size+1) scope.names []) (bindC (envOfC qual scope s.heap.objs.size f cd).kindOf (ps.zip us) fun _=>none) s1) :
  Inv (zk9 CX P w K mg base N qual scope f cd A outer s H E) [] (zfb N vs) H s1:=by
 have hpl:ps.length<=N.length:=by have:=congrArg List.length S.pre;rw [yaN] at this;omega
 obtain ⟨h1,tk,rfl,hk⟩:=x.done;have noA:∀b:Addr,b ∉ (zk9 CX P w K mg base N qual scope f cd A outer s H E).ex:=fun b z=>absurd (show b∈([]:List Addr) from z) (by simp)
 refine ⟨⟨e0.mod,S.kind,rfl,rfl,yah _,fun y z c h1 h2=>?_,fun y hy=>?_,fun y c _ h=>?_,fun _=>hd,Around.frames_deeper e0.frames,.inr ⟨rfl,rfl⟩,fun b z=>absurd z (noA b),e0.bs,e0.bsz,fun b _ _=>noA b,fun b z=>absurd z (noA b),e0.funs,e0.frf⟩,
  rfl,e0.bare,Un.kept hk,⟨_,x.toInCall.ns,fun i y v h1 h2 h3=>?_⟩,fun y c h=>⟨_,x.cell y c h⟩,e0.hok.fresh (yah _),fun y c h=>?_,fun p hp=>absurd (show p∈([]:Z3) from hp) (by simp),e0.hok.kept hk,?_⟩
 ·exact name_of_addr x.apart (yaK h1) (yaK h2)
 ·have hy:scope.names.lookup y=some .cell\/scope.names.lookup y=some .free:=hy
  rcases hy with hy | hy
  ·exact zia hy
  ·exact absurd rfl (S.nofree _ (yaK hy))
 ·exact ycM (x.above y c (yaK h))
 ·have hi:i<vs.length:=by
   unfold zfb at h2
   by_cases hi:i<vs.length
   ·exact hi
   ·rw [yaz (by simpa using hi)] at h2;rw [ybQ] at h2
    split at h2<;>cases h2
  have ha:vs[i]?=some v:=by
   unfold zfb at h2;rw [yaP (by simpa using hi),yas] at h2
   cases e:vs[i]? with
   | none=>rw [e] at h2;cases h2
   | some a=>rw [e] at h2;cases h2;rfl
  obtain ⟨u,hu,rv⟩:=r.get ha
  have hp:ps[i]?=some y:=by
   rw [<-S.pre,List.getElem?_take_of_lt (by omega)];exact h1
  have ndP:ps.Nodup:=by rw [<-S.pre];exact S.nd.sublist (List.take_sublist _ _)
  refine ⟨u,rv,?_⟩
  rcases S.par y (ya3 hp) with k | k
  ·exact .inl ⟨k,zgG ndP hp hu k⟩
  ·obtain ⟨c,e⟩:=zia (n:=s.heap.objs.size+1) k;refine .inr ⟨.inl k,c,e,?_⟩;have q:=x.cell y c e;rw [zgI ndP hp hu (by show scope.names.lookup y≠_;rw [k];decide)] at q;exact q
 ·exact e0.hok.fresh (ycM (x.above y c (yaK h)))
 ·unfold zfb;show _=N.length;rw [yav,yaf,yaV];omega
def zus{CX:CXT}{P:Program}{w:World}{K:PySem.W.Frag}{mg:Z6}{base:Heap}{k:Nat}{f:Addr}{name qual:Str}{params:Arguments}{body:List Stmt}{scope:Scope}{dV kV doc pm cdv ct oc:Value}{an od:Option Addr}
  {osl:Array (Option Value)} {N ps:List Str} {sp:Sp} (lk:K.lookup f=some ⟨oc,od,.func (PySem.W.fnOf name qual params body scope dV kV doc pm an cdv ct),osl⟩) (hcd:PySem.W.codeIn K cdv qual=true) (S:FnScope N ps scope)
  (len:∀vs H Q E,sp vs H Q E->vs.length=ps.length)
  (hbody:∀(A:Around) (outer:List Env) (s:Shared) (H:Hp) (vs:List V) (Q:VK) (E:XK),Room k (A.deeper (envOfC qual scope s.heap.objs.size f cdv))->sp vs H Q E →
   ∃t,PSs (zk9 CX P w K mg base N qual scope f cdv A outer s H E) body t/\t { nx:=fun _ H'=>Q .non H',rt:=Q } (zfb N vs) H) :
  FnOk P w K mg base CX (k+1) f (PySem.W.fnOf name qual params body scope dV kV doc pm an cdv ct) ps sp:=by
 refine ⟨len,fun A outer s H args us vs Q E hr e0 hb r hsp=>?_⟩;have hl:=len _ _ _ _ hsp;have KX:K.In s.heap:=e0.mod.kin.keeps fun b o e=>(e0.bs b o e).1
 have lim:s.heap.NoLimit:=e0.mod.nolimit.keeps fun b o e=>(e0.bs b o e).1
 have hkind:∀y∈ps.zip us,scope.names.lookup y.1=some .local\/(scope.names.lookup y.1=some .cell/\((cellsFrom (s.heap.objs.size+1) scope.names []).lookup y.1).isSome=true):=fun ⟨n,v⟩ hy=>by
  rcases S.par n (List.of_mem_zip hy).1 with q | q
  ·exact .inl q
  ·exact .inr ⟨q,PySem.W.cellsFrom_some _ _ _ (.inl q)⟩
 refine codeAny_call_function hr.depth (KX _ _ lk) rfl S.co S.gen rfl (PySem.W.codeRec_of KX hcd) (hb _ _ _ _ ?_);refine wpAny_newFunctionEnv_cells S.kind hkind fun env he s1 x=>?_
 subst he;refine ⟨lim.keeps x.toInCall.keep,codeAny_func ?_⟩;obtain ⟨t,ht,hq⟩:=hbody A outer s H vs Q E (hr.deeper _) hsp;have I:Inv (zk9 CX P w K mg base N qual scope f cdv A outer s H E) [] (zfb N vs) H s1:=zkt S hr.hd e0 hl r x;refine ybx (ht [] s1 (zfb N vs) H _ I hq) (fun fl s' hs=>?_) fun e s' hs=>hs
 have fin:∀{σ':St} {H':Hp} {v:V} {u:Value},Inv (zk9 CX P w K mg base N qual scope f cdv A outer s H E) [] σ' H' s'->zaE v u->Q v H'->CE outer P w H s Q u s' :=
  fun {σ' H' v u} J rv q=>⟨v,H',J.os,J.bare,J.base,J.hok,rv,q⟩
 cases fl with
 | ret u =>
  obtain ⟨v,σ',H',J,rv,q⟩:=hs;exact fin J rv q
 | next =>
  obtain ⟨σ',H',J,q⟩:=hs;exact fin (v:=V.non) (u:=Value.none) J rfl q
 | brk =>
  obtain ⟨_,_,_,q⟩:=hs;exact False.elim q
 | cont =>
  obtain ⟨_,_,_,q⟩:=hs;exact False.elim q
end L2
namespace L2
open PySem PySem.Spec PyProof.Rows
section
variable{X:Cx}{x:Str}{p pos:Pos}{e:Expr}{es:List Expr}{t:TA}{id T:String}{r:List V->Hp->VK->Prop}
noncomputable def tCB(r:List V->Hp->VK->Prop)(t:TA):TE:=fun σ H Q=>t σ H fun vs H1=>r vs H1 Q
def zdc(hc:zc2 X (.builtin id) r)(hg:Gl X x)(hm:X.mg x=none)(hv:bootBuiltins x=some (.builtin id))(ha:PA X (e::es) t)(hn:x ≠ "__name__":=by decide)(hdb:(x == ("__debug__":Str))=false:=by decide)
  (he:starEach (e::es) X.env=(false,eval e X.env)::starEach es X.env:=by rfl) (hpl:(backTo pos (starEach es X.env)).any (·.1)=false:=by rfl):PE X (.Call (.Name x p) (e::es) [] pos) (tCB r t):=by
 intro pins s σ H Q I h;refine ybG (zdO I hg hm hv ?_ hn hdb);exact PyProof.Rows.callWith_builtin1 (thn (ha pos pins s σ H _ I h) fun us s1 ⟨vs,H1,I1,r1,q1⟩=>hc pins s1 σ H1 vs us Q I1 r1 q1) he hpl
def zdb(hc:zc2 X (.type T) r)(hg:Gl X x)(hm:X.mg x=none)(hv:bootBuiltins x=some (.type T))(ha:PA X (e::es) t)(hn:x ≠ "__name__":=by decide)(hdb:(x == ("__debug__":Str))=false:=by decide)
  (he:starEach (e::es) X.env=(false,eval e X.env)::starEach es X.env:=by rfl) (hpl:(backTo pos (starEach es X.env)).any (·.1)=false:=by rfl):PE X (.Call (.Name x p) (e::es) [] pos) (tCB r t):=by
 intro pins s σ H Q I h;refine ybG (zdO I hg hm hv ?_ hn hdb);exact ya6 (thn (ha pos pins s σ H _ I h) fun us s1 ⟨vs,H1,I1,r1,q1⟩=>hc pins s1 σ H1 vs us Q I1 r1 q1) he hpl
end
end L2
namespace HT
open PySem PyProof.Rows
section
open PySem.SeqAt
open PySem.AutoSeq1 (wpAny_loadPart')
open PySem.MeetsSeq PySem.MeetsSeq2 PySem.MeetsSeq3
end
section
variable{prog:Program}{w:World}{A:Around}{E:Z5}{s:Shared}
def zpl{t b:Addr}{vs ws:List Value}{Q:Z5}(ht:IsTup s.heap t vs.toArray)(hb:IsTup s.heap b ws.toArray)(hv:vs≠[])
  (h1:ws=[]->Q (.ref t) s) (h2:ws≠[]->Q (.ref s.heap.objs.size) { s with heap:=s.heap.push { cls:=.type "tuple",data:=.seq (vs++ws).toArray } })
  (hsz:vs.length+ws.length<=sizeLine):wpAny (model prog w) A (binaryOp .Add (.ref t) (.ref b)) Q E s:=by
 obtain ⟨⟨cls,dd,data,sl⟩,ho,hc,n,hd⟩:=id ht;obtain ⟨⟨cls2,dd2,data2,sl2⟩,ho2,hc2,n2,hd2⟩:=id hb;simp only at hc hd hc2 hd2;subst hc hd hc2 hd2
 have e:vs.toArray++ws.toArray=(vs++ws).toArray:=by simp
 by_cases hw:ws=[]
 ·exact concat_meets ⟨_,ho,rfl⟩ ⟨_,ho2,rfl⟩ noFill_tuple_add seq_tuple_add ycE yct (ycq _ _)
   (tuple_addW1 t b vs.toArray ws.toArray n n2 dd dd2 sl sl2 (by simpa using hv) (by simp [hw])) ⟨ho,ho2,h1 hw⟩
 ·refine concat_meets ⟨_,ho,rfl⟩ ⟨_,ho2,rfl⟩ noFill_tuple_add seq_tuple_add ycE yct (ycq _ _)
   (tuple_addW2 t b vs.toArray ws.toArray n n2 dd dd2 sl sl2 (by simpa using hv) (by simpa using hw) (by rw [yag,yag];exact hsz)) ⟨ho,ho2,?_⟩
  rw [e];exact h2 hw
noncomputable def sIx(n d:Nat):Option Int->Nat
 | none=>d
 | some v=>if v<0 then (v+(n:Int)).toNat else min v.toNat n
def zqC(n d:Nat)(hd:d<=n)(o:Option Int):sIx n d o<=n:=by
 cases o with
 | none=>exact hd
 | some v =>
  show (if v<0 then (v+(n:Int)).toNat else min v.toNat n)<=n
  by_cases hv:v<0
  ·rw [if_pos hv];omega
  ·rw [if_neg hv];exact Nat.min_le_right _ _
def zkQ(v:Int)(n d:Nat):(if v<0 then max (v+(n:Int)) 0 else min v (n:Int))=((sIx n d (some v):Nat):Int):=by
 show (if v<0 then max (v+(n:Int)) 0 else min v (n:Int))=(((if v<0 then (v+(n:Int)).toNat else min v.toNat n):Nat):Int)
 by_cases hv:v<0
 ·simp only [if_pos hv];omega
 ·simp only [if_neg hv];omega
def ziW(lo hi:Option Int)(n:Nat):Builtin.Slice.sliceAdjust lo hi 1 (n:Int)=(((sIx n 0 lo:Nat):Int),((sIx n n hi:Nat):Int)):=by
 have h1:¬ ((1:Int)<0):=by omega
 unfold Builtin.Slice.sliceAdjust;simp only [h1,ybm];refine Prod.ext ?_ ?_
 ·cases lo with
  | none=>rfl
  | some v=>exact zkQ v n 0
 ·cases hi with
  | none=>rfl
  | some v=>exact zkQ v n n
def zix(i j:Nat):Builtin.Slice.slicePlaces (i:Int) (j:Int) 1=j-i:=by
 unfold Builtin.Slice.slicePlaces
 have h1:(1:Int) > 0:=by omega
 simp only [h1,yb4,Int.ediv_one]
 split<;>omega
def zeQ{v:Value}{o:Option Int}{Q:Option Int->Shared->Prop}(p:IsPart v o)(h:Q o s):wpAny (model prog w) A (Builtin.Slice.slicePartIndex v) Q E s:=by
 cases p with
 | none=>exact slicePart_none h
 | int i t=>exact slicePart_int h
def zb9{sl:Addr}{vl vu:Value}{lo hi:Option Int}{n:Nat}{Q:Int×Int×Nat->Shared->Prop}(hs:s.heap.IsSliceOf sl vl vu .none)(pl:IsPart vl lo)(pu:IsPart vu hi)
  (h:Q (((sIx n 0 lo:Nat):Int),1,sIx n n hi-sIx n 0 lo) s):wpAny (model prog w) A (Builtin.Slice.sliceApplied (.ref sl) (pure (n:Int))) Q E s:=by
 obtain ⟨os,hos,hcs,hds⟩:=id hs;unfold Builtin.Slice.sliceApplied Builtin.Slice.sliceFields;refine yaa (yaa (ybR hos hds (x:=vl) rfl (yaa (ybR hos hds (x:=vu) rfl (yaa (ybR hos hds (x:=.none) rfl (yac ?_)))))));refine yaa (slicePart_none ?_);show wpAny _ _ (if ((1:Int) == 0)=true then _ else _) _ _ s;rw [if_neg (by decide)];refine yaa (zeQ pl (yaa (zeQ pu (yaa (yac ?_)))));show wpAny _ _ (match Builtin.Slice.sliceAdjust lo hi 1 (n:Int) with | (lo,hi)=>pure (lo,(1:Int),Builtin.Slice.slicePlaces lo hi 1)) _ _ s;rw [ziW lo hi n];show wpAny _ _ (pure (((sIx n 0 lo:Nat):Int),(1:Int),Builtin.Slice.slicePlaces ((sIx n 0 lo:Nat):Int) ((sIx n n hi:Nat):Int) 1)) _ _ s;rw [zix];exact yac h
def zly(xs:Array Value)(i k:Nat):((List.range k).filterMap fun (m:Nat)=>xs[((i:Int)+(m:Int)*1).toNat]?).toArray=((xs.toList.drop i).take k).toArray:=by
 have e:(fun (m:Nat)=>xs[((i:Int)+(m:Int)*1).toNat]?)=fun m=>xs[i+m]?:=by
  funext m
  have:((i:Int)+(m:Int)*1).toNat=i+m:=by omega
  rw [this]
 rw [e];have:=pick_run xs i k;rw [List.filterMap_map] at this;have e2:((fun x=>xs[x]?)∘fun x=>i+x)=fun m=>xs[i+m]?:=rfl
 rw [e2] at this;rw [this]
def zdC{t sl:Addr}{items:Array Value}{vl vu:Value}{lo hi:Option Int}{Q:Z5}(ht:IsTup s.heap t items)(hs:s.heap.IsSliceOf sl vl vu .none)(pl:IsPart vl lo)(pu:IsPart vu hi)
  (hw:¬ (sIx items.size 0 lo=0/\sIx items.size items.size hi=items.size))
  (h:Q (.ref s.heap.objs.size) { s with heap:=s.heap.push { cls:=.type "tuple",data:=.seq ((items.toList.drop (sIx items.size 0 lo)).take (sIx items.size items.size hi-sIx items.size 0 lo)).toArray } })
  (hsz:items.size<=sizeLine):wpAny (model prog w) A (getItem (.ref t) (.ref sl)) Q E s:=by
 have htake:sizeOk (.seq ((items.toList.drop (sIx items.size 0 lo)).take (sIx items.size items.size hi-sIx items.size 0 lo)).toArray):=by
  show ((items.toList.drop (sIx items.size 0 lo)).take (sIx items.size items.size hi-sIx items.size 0 lo)).toArray.size<=sizeLine;rw [yag,yaN,yck,yaB];omega
 have hj:sIx items.size items.size hi<=items.size:=zqC _ _ (yah _) hi;obtain ⟨os,hos,hcs,hds⟩:=id hs;have hTs:s.TypeIs (.ref sl) "slice":=⟨os,hos,hcs⟩;unfold getItem
 try with_reducible refine yaW ?_
 first | refine yaa (yac ?_) | skip
 refine yaa (wpAny_sequenceKey ht.typeIs (by decide) ?_)
 refine yaa (ybg (name:=Str.ofString "__getitem__") ht.typeIs yaX
  (yaS yaX ht.typeIs entry_tuple_getitem ?_ (args_tuple_getitem _ _)))
 show wpAny _ _ (Builtin.Tuple.tupleItemsOf (.ref t) >>= _) _ _ s;refine yaa (tupleItemsOf_ ht ?_);refine yaa (ybH hTs ?_);rw [if_pos (by decide)];refine yaa (zb9 hs pl pu ?_)
 have hno:¬ ((((sIx items.size 0 lo:Nat):Int) == 0&&(1:Int) == 1&&(sIx items.size items.size hi-sIx items.size 0 lo) == items.size)=true):=by
  intro q;rw [yab,yab] at q;have q1:((sIx items.size 0 lo:Nat):Int)=0:=eq_of_beq q.1.1;have q2:sIx items.size items.size hi-sIx items.size 0 lo=items.size:=eq_of_beq q.2;exact hw ⟨by omega,by omega⟩
 show wpAny _ _ (if (((sIx items.size 0 lo:Nat):Int) == 0&&(1:Int) == 1&&(sIx items.size items.size hi-sIx items.size 0 lo) == items.size)=true then _ else _) _ _ s;rw [if_neg hno,zly]
 first
  | exact yaa (m:=Builtin.Tuple.tupleExact _) (yaR (yac ⟨_,rfl,yac h⟩) htake)
  | exact yaa (m:=Builtin.Tuple.tupleExact _) (yaR (yaa (yac (yac ⟨_,rfl,yac h⟩))) htake)
  | exact yaa (yaa (m:=Builtin.Tuple.tupleExact _) (yaR (yac (yac ⟨_,rfl,yac h⟩)) htake))
  | exact yaa (yaa (m:=Builtin.Tuple.tupleExact _) (yaR (yac ⟨_,rfl,yac h⟩) htake))
end
end HT
namespace L2
open PySem PySem.Spec PyProof.Rows
noncomputable abbrev TO:=St->Hp->(Option Int->Hp->Prop)->Prop
noncomputable def PO(X:Cx)(e:Option Expr)(t:TO):Prop :=
 ∀(pins:Z3) (s:Shared) (σ:St) (H:Hp) (Q:Option Int->Hp->Prop),Inv X pins σ H s->t σ H Q →
  wpAny (model X.prog X.w) X.A (evalPart e X.env) (fun u s'=>∃o H',Inv X pins σ H' s'/\IsPart u o/\Q o H') X.xe s
noncomputable def zjg:TO:=fun _ H Q=>Q none H
noncomputable def zpS(t:TE):TO:=fun σ H Q=>t σ H fun x H1=>∃i,x=.int i/\Q (some i) H1
section
variable{X:Cx}{e:Expr}{te:TE}{lo hi:Option Expr}{tl th:TO}{pos p2:Pos}
def zos:PO X none zjg:=by
 intro pins s σ H Q I h;rw [evalPart_none];exact yac ⟨none,H,I,.none,h⟩
def zor(h:PE X e te):PO X (some e) (zpS te):=by
 intro pins s σ H Q I hw;rw [evalPart_some];refine thn (h pins s σ H _ I hw) fun u s1 ⟨x,H1,I1,r1,q1⟩=>?_
 obtain ⟨i,rfl,q⟩:=q1;obtain ⟨t,rfl⟩:=r1;exact ⟨some i,H1,I1,.int i t,q⟩
noncomputable def SlR(X:Cx)(r:V->Option Int->Option Int->Hp->VK->Prop):Prop :=
 ∀(pins:Z3) (s:Shared) (σ:St) (H:Hp) (x:V) (v vl vu:Value) (lo hi:Option Int) (sl:Addr) (Q:VK),Inv X pins σ H s->zaE x v->s.heap.IsSliceOf sl vl vu .none->IsPart vl lo->IsPart vu hi->r x lo hi H Q →
  ∃T id,typeLookup (.type T) "__getitem__" = pure (some (.builtin id))/\s.TypeIs v T/\wpAny (model X.prog X.w) X.A (getItem v (.ref sl)) (EP X pins σ Q) X.xe s
noncomputable def tSl(r:V->Option Int->Option Int->Hp->VK->Prop)(te:TE)(tl th:TO):TE:=fun σ H Q=>te σ H fun x H1=>tl σ H1 fun l H2=>th σ H2 fun u H3=>r x l u H3 Q
def zlz{r:V->Option Int->Option Int->Hp->VK->Prop}(hr:SlR X r)(he:PE X e te)(hl:PO X lo tl)(hu:PO X hi th):PE X (.Subscript e (.Slice lo hi none p2) pos) (tSl r te tl th):=by
 intro pins s σ H Q I h;refine Subscript_ (thn (he pins s σ H _ I h) fun v s1 ⟨x,H1,I1,r1,q1⟩=>?_);refine wpAny_Slice (thn (hl pins s1 σ H1 _ I1 q1) fun vl s2 ⟨l,H2,I2,pl,q2⟩=>thn (hu pins s2 σ H2 _ I2 q2) fun vu s3 ⟨u,H3,I3,pu,q3⟩=>?_);rw [evalPart_none];refine yac ?_;have I4:Inv X pins σ H3 { s3 with heap:=s3.heap.push { cls:=.type "slice",data:=.fields #[vl,vu,.none] } }:=I3.kept (t':=s3.toks) fun b ob q=>yae _ q
 obtain ⟨T,id,hT,ht,hg⟩:=hr pins { s3 with heap:=s3.heap.push { cls:=.type "slice",data:=.fields #[vl,vu,.none] } } σ H3 x v vl vu l u s3.heap.objs.size Q I4 r1 (Heap.IsSliceOf.new ..) pl pu q3;show wpAny (model X.prog X.w) X.A (subscriptTail e (.Slice lo hi none p2) v (.ref s3.heap.objs.size)) (EP X pins σ Q) X.xe { s3 with heap:=s3.heap.push { cls:=.type "slice",data:=.fields #[vl,vu,.none] } };exact tail_any (ops:=[.ref s3.heap.objs.size,v]) ht hT hg (by with_unfolding_all rfl)
noncomputable def znw(xs:List V)(lo hi:Option Int):List V:=(xs.drop (HT.sIx xs.length 0 lo)).take (HT.sIx xs.length xs.length hi-HT.sIx xs.length 0 lo)
def zey(xs:List V)(lo hi:Option Int):(znw xs lo hi).length<=xs.length:=by
 unfold znw;rw [yaN,yck];omega
noncomputable def zxP(K:PySem.W.Frag):V->Option Int->Option Int->Hp->VK->Prop:=fun x lo hi H Q=>∃a xs,x=.ref a/\SqT K H a xs ∧
 ¬ (HT.sIx xs.length 0 lo=0/\HT.sIx xs.length xs.length hi=xs.length)/\∀p,H p=none->Q (.ref p) (upd H p (.tup (znw xs lo hi)))
def zqg:SlR X (zxP X.K):=by
 intro pins s σ H x v vl vu lo hi sl Q I rx hs pl pu h;obtain ⟨a,xs,rfl,hx,hw,q⟩:=h;cases rx;obtain ⟨its,r,ht,hz⟩:=I.tuple hx
 have hlen:its.toArray.size=xs.length:=by rw [yag];exact r.length.symm
 refine ⟨"tuple",_,yaX.lookup,ht.typeIs,?_⟩;refine HT.zdC ht hs pl pu (by rw [hlen];exact hw) ?_ (by rw [hlen];exact hz);rw [hlen];refine ⟨.ref s.heap.objs.size,_,I.laid (t':=s.toks) (o:=.tup (znw xs lo hi)) (fun b ob q=>yae _ q) (yah _) ?_,rfl,q _ (I.hok.fresh (yah _))⟩;exact ⟨yaq (zey xs lo hi) hz,_,(r.drop (HT.sIx xs.length 0 lo)).take (HT.sIx xs.length xs.length hi-HT.sIx xs.length 0 lo),IsTup.new _ _⟩
noncomputable def ztI(K:PySem.W.Frag):R2:=fun x y H Q=>∃a b xs ys,x=.ref a/\y=.ref b/\SqT K H a xs/\SqT K H b ys/\xs≠[]/\xs.length+ys.length<=sizeLine ∧
 (ys=[]->Q (.ref a) H)/\(ys≠[]->∀p,H p=none->Q (.ref p) (upd H p (.tup (xs++ys))))
def Vals.nil_iff{xs:List V}{us:List Value}(r:Vals xs us):us=[]↔xs=[]:=by
 cases r with
 | nil=>simp
 | cons _ _=>simp
def zoD:OpR X (binaryOp .Add) (ztI X.K):=by
 intro pins s σ H x y v u Q I rx ry h;obtain ⟨a,b,xs,ys,rfl,rfl,ha,hb,hx,hz,q1,q2⟩:=h;cases rx;cases ry;obtain ⟨its,r1,p1,_⟩:=I.tuple ha;obtain ⟨its2,r2,p2,_⟩:=I.tuple hb;refine HT.zpl p1 p2 (fun z=>hx (r1.nil_iff.mp z)) (fun z=>⟨.ref a,H,I,rfl,q1 (r2.nil_iff.mp z)⟩) (fun z=>?_) (by rw [<-r1.length,<-r2.length];exact hz);refine ⟨.ref s.heap.objs.size,_,I.laid (t':=s.toks) (o:=.tup (xs++ys)) (fun b ob q=>yae _ q) (yah _) ?_,rfl,q2 (fun w=>z (r2.nil_iff.mpr w)) _ (I.hok.fresh (yah _))⟩;exact ⟨by rw [yav];exact hz,_,r1.append r2,IsTup.new _ _⟩
end
end L2
namespace L2
open PySem PySem.Spec PyProof.Rows
noncomputable def ixN(n:Nat)(i:Int):Option Nat:=if 0<=i then (if i<n then some i.toNat else none) else if -(n:Int)<=i then some (i+n).toNat else none
noncomputable def atI{α:Type}(xs:List α)(i:Int):Option α:=(ixN xs.length i).bind fun j=>xs[j]?
def zkn{n:Nat}{i:Int}{j:Nat}(h:ixN n i=some j):seqIndex? i n=some j/\j<n/\-(n:Int)<=i/\i<n:=by
 unfold ixN at h
 by_cases h0:0<=i
 ·rw [if_pos h0] at h
  by_cases h1:i<n
  ·rw [if_pos h1] at h;have e:i.toNat=j:=Option.some.inj h;exact ⟨by rw [seqIndex_of h0 h1,e],by omega,by omega,h1⟩
  ·rw [if_neg h1] at h;cases h
 ·rw [if_neg h0] at h
  by_cases h1:-(n:Int)<=i
  ·rw [if_pos h1] at h;have e:(i+n).toNat=j:=Option.some.inj h;exact ⟨by rw [seqIndex_neg (by omega) h1,e],by omega,h1,by omega⟩
  ·rw [if_neg h1] at h;cases h
def zk1{α:Type}{xs:List α}{i:Int}{v:α}(h:atI xs i=some v):∃j,seqIndex? i xs.length=some j/\xs[j]?=some v/\j<xs.length/\-(xs.length:Int)<=i/\i<xs.length:=by
 unfold atI at h
 cases e:ixN xs.length i with
 | none=>rw [e] at h;cases h
 | some j =>
  rw [e] at h;obtain ⟨h1,h2,h3,h4⟩:=zkn e;exact ⟨j,h1,h,h2,h3,h4⟩
noncomputable def zfQ(b:Expr):Prop:=∀o i,subscripted b false o i=operate [o,i] (getItem o i)
noncomputable def IxR(X:Cx)(r:R2):Prop :=
 ∀(value slice:Expr) (pins:Z3) (s:Shared) (σ:St) (H:Hp) (x y:V) (v u:Value) (Q:VK),Inv X pins σ H s->zaE x v->zaE y u->r x y H Q →
  subscripted slice false v u=operate [v,u] (getItem v u)->wpAny (model X.prog X.w) X.A (subscriptTail value slice v u) (EP X pins σ Q) X.xe s
noncomputable def MtR(X:Cx)(id:String)(r:V->List V->Hp->VK->Prop):Prop :=
 ∀(pins:Z3) (s:Shared) (σ:St) (H:Hp) (x:V) (xs:List V) (v:Value) (us:List Value) (Q:VK),Inv X pins σ H s->zaE x v->Vals xs us->r x xs H Q →
  wpAny (model X.prog X.w) X.A (call (.builtin id) (v::us)) (EP X pins σ Q) X.xe s
section
variable{X:Cx}{a b:Expr}{ta tb:TE}{pos:Pos}
def zq4{r:R2}(hr:IxR X r)(ha:PE X a ta)(hb:PE X b tb)(hs:zfQ b):PE X (.Subscript a b pos) (tOp r ta tb):=by
 intro pins s σ H Q I h;exact Subscript_ (zuI ha hb I h fun v u s2 x y H2 I2 rx ry q=>hr a b pins s2 σ H2 x y v u Q I2 rx ry q (hs _ _))
noncomputable def zxT(K:PySem.W.Frag):R2:=fun x y H Q=>∃p xs i v,x=.ref p/\y=.int i/\SqL K H p xs/\atI xs i=some v/\Q v H
noncomputable def zxS(K:PySem.W.Frag):R2:=fun x y H Q=>∃p xs i v,x=.ref p/\y=.int i/\SqT K H p xs/\atI xs i=some v/\Q v H
def zkm:IxR X (zxT X.K):=by
 intro value slice pins s σ H x y v u Q I rx ry h hs;obtain ⟨p,xs,i,z,rfl,rfl,hq,he,q⟩:=h;cases rx;obtain ⟨t,rfl⟩:=ry;obtain ⟨its,r,pl,hz⟩:=I.list hq;obtain ⟨j,h1,h2,h3,h4,h5⟩:=zk1 he;obtain ⟨w,ew,rw'⟩:=r.get h2;have hl:=r.length;have hn:=zgp;have fin:EP X pins σ Q w s:=⟨z,H,I,rw',q⟩
 by_cases h0:0<=i
 ·have hj:i.toNat=j:=by
   rw [seqIndex_of h0 h5] at h1;exact Option.some.inj h1
  exact item_listR pl.isList h0 (by omega) (by rw [hj];simpa using ew) fin hs
 ·have hj:(i+(its.toArray.size:Int)).toNat=j:=by
   rw [seqIndex_neg (by omega) h4] at h1;rw [yag,<-hl];exact Option.some.inj h1
  exact ycF (x:=w) pl.isList.typeIs slot_list_getitem.lookup
   (wpAny_getItem_list_neg (Q:=fun r s'=>r=w/\EP X pins σ Q r s') pl.isList (by omega) (by rw [yag]<;>omega) (by omega) (by rw [hj];simpa using ew) ⟨rfl,fin⟩) hs
def zrJ:IxR X (zxS X.K):=by
 intro value slice pins s σ H x y v u Q I rx ry h hs;obtain ⟨p,xs,i,z,rfl,rfl,hq,he,q⟩:=h;cases rx;obtain ⟨t,rfl⟩:=ry;obtain ⟨its,r,pl,hz⟩:=I.tuple hq;obtain ⟨j,h1,h2,h3,h4,h5⟩:=zk1 he;obtain ⟨w,ew,rw'⟩:=r.get h2;have hl:=r.length;have hn:=zgp;have fin:EP X pins σ Q w s:=⟨z,H,I,rw',q⟩
 exact ycF (x:=w) pl.typeIs slot_tuple_getitem.lookup
  (getItem_tuple (j:=j) (Q:=fun r s'=>r=w/\EP X pins σ Q r s') pl (by omega) (by omega) (by rw [yag,<-hl];exact h1) (by simpa using ew) ⟨rfl,fin⟩) hs
def ziD(its:List Value)(n j:Nat)(u:Value):Obj.mapSeq (·.setIfInBounds j u) { cls:=.type "list",data:=.seq its.toArray n }={ cls:=.type "list",data:=.seq (its.set j u).toArray n }:=by
 simp [Obj.mapSeq]
theorem Inv.lst{pins:Z3}{σ:St}{H:Hp}{s:Shared}{p:Addr}{xs:List V}(I:Inv X pins σ H s)(h:H p=some (.lst xs)) :
  ∃(its:List Value) (n:Nat),Vals xs its/\s.heap.get? p=some { cls:=.type "list",data:=.seq its.toArray n }/\xs.length<=sizeLine:=by
 obtain ⟨z,its,n,r,e⟩:=I.hok p _ h;exact ⟨its,n,r,e,z⟩
def Inv.lstUpd{pins:Z3}{σ:St}{H:Hp}{s:Shared}{p:Addr}{xs ys:List V}{its its':List Value}{n n':Nat}{f:Obj->Obj}(I:Inv X pins σ H s)(h:H p=some (.lst xs))
  (ho:s.heap.get? p=some { cls:=.type "list",data:=.seq its.toArray n }) (hf:f { cls:=.type "list",data:=.seq its.toArray n }={ cls:=.type "list",data:=.seq its'.toArray n' }) (r:Vals ys its') (hz:ys.length<=sizeLine) (t:Nat) :
  Inv X pins σ (upd H p (.lst ys)) { s with heap:=s.heap.update p f,toks:=t }:=by
 have e:(s.heap.update p f).get? p=some { cls:=.type "list",data:=.seq its'.toArray n' }:=by
  rw [ybq f ho (by rw [hf]<;>rfl),hf]
 refine I.write (x:=p) (e:=p) (by rw [h];trivial) (.inl rfl) (fun b u hb q=>(ybZ _ _ (Ne.symm hb)).trans q) ⟨_,e⟩ ?_;exact ⟨hz,its',n',r,e⟩
noncomputable def ztH:V->V->V->Hp->(Hp->Prop)->Prop:=fun o i v H Q=>∃p xs k j,o=.ref p/\i=.int k/\H p=some (.lst xs)/\ixN xs.length k=some j/\Q (upd H p (.lst (xs.set j v)))
def zli:zuZ X ztH:=by
 intro pins s σ H o i v ov iv u Q I ro ri rv h;obtain ⟨p,xs,k,j,rfl,rfl,hp,hj,q⟩:=h;cases ro;obtain ⟨t,rfl⟩:=ri;obtain ⟨its,n,r,ho,hz⟩:=I.lst hp;obtain ⟨h1,h2,h3,h4⟩:=zkn hj;have hl:=r.length;have hn:=zgp
 have I':Inv X pins σ (upd H p (.lst (xs.set j v))) { s with heap:=s.heap.update p (Obj.mapSeq (·.setIfInBounds j u)) } :=
  I.lstUpd hp ho (ziD its n j u) (r.set rv j) (by rw [yaI];exact hz) s.toks
 by_cases h0:0<=k
 ·have hk:k.toNat=j:=by
   rw [seqIndex_of h0 h4] at h1;exact Option.some.inj h1
  exact PySem.W.ki_setAt ho h0 (by omega) (by rw [yag,<-hl];exact h4) (by rw [hk];exact ⟨_,I',q⟩)
 ·have hk:(k+(its.toArray.size:Int)).toNat=j:=by
   rw [seqIndex_neg (by omega) h3] at h1;rw [yag,<-hl];exact Option.some.inj h1
  exact PySem.W.ki_setBack ho (by omega) (by rw [yag,<-hl];exact h3) (by omega) (by rw [hk];exact ⟨_,I',q⟩)
def zf5(lo hi:Option Int)(n:Nat):(sliceBounds lo hi none n).1=((HT.sIx n 0 lo:Nat):Int)/\(sliceBounds lo hi none n).2.1=((HT.sIx n n hi:Nat):Int)/\(sliceBounds lo hi none n).2.2=1:=by
 refine ⟨?_,?_,rfl⟩
 ·cases lo with
  | none=>simp [sliceBounds,HT.sIx]
  | some i =>
   simp only [sliceBounds,HT.sIx,Option.getD_none,show (1:Int) > 0 by decide,yb4]
   by_cases h:i<0
   ·simp only [h,yb4]<;>omega
   ·simp only [h,ybm]<;>omega
 ·cases hi with
  | none=>simp [sliceBounds,HT.sIx]
  | some i =>
   simp only [sliceBounds,HT.sIx,Option.getD_none,show (1:Int) > 0 by decide,yb4]
   by_cases h:i<0
   ·simp only [h,yb4]<;>omega
   ·simp only [h,ybm]<;>omega
def zfe(its:List Value)(lo hi:Option Int):slicePick its.toArray lo hi none=((its.drop (HT.sIx its.length 0 lo)).take (HT.sIx its.length its.length hi-HT.sIx its.length 0 lo)).toArray:=by
 obtain ⟨h1,h2,h3⟩:=zf5 lo hi its.toArray.size;unfold slicePick;rw [h1,h2,h3]
 simp only [sliceRange_one,pick_run,yag]<;>rfl
noncomputable def zxQ(K:PySem.W.Frag):V->Option Int->Option Int->Hp->VK->Prop:=fun x lo hi H Q=>∃a xs,x=.ref a/\SqL K H a xs/\∀p,H p=none->Q (.ref p) (upd H p (.lst (znw xs lo hi)))
def zn2:SlR X (zxQ X.K):=by
 intro pins s σ H x v vl vu lo hi sl Q I rx hs pl pu h;obtain ⟨a,xs,rfl,hx,q⟩:=h;cases rx;obtain ⟨its,r,ht,hz⟩:=I.list hx;have hlen:=r.length;refine ⟨"list",_,slot_list_getitem.lookup,ht.isList.typeIs,?_⟩;refine wpAny_getItem_list_slice ht.isList hs pl pu .none (by simp) ?_ (by rw [yag]<;>omega);rw [zfe,<-hlen];refine ⟨.ref s.heap.objs.size,_,I.laid (t':=s.toks) (o:=.lst (znw xs lo hi)) (fun b ob q=>yae _ q) (yah _) ?_,rfl,q _ (I.hok.fresh (yah _))⟩;exact ⟨yaq (zey xs lo hi) hz,_,0,(r.drop (HT.sIx xs.length 0 lo)).take (HT.sIx xs.length xs.length hi-HT.sIx xs.length 0 lo),yak _ rfl⟩
def zcs:zc2 X (.builtin "len") (fun xs H Q=>∃p ys,xs=[.ref p]/\(SqL X.K H p ys\/SqT X.K H p ys)/\Q (.int ys.length) H):=by
 intro pins s σ H xs us Q I r h;obtain ⟨p,ys,rfl,hq,q⟩:=h;obtain ⟨u,rfl,rx⟩:=zeG r;cases rx;have hn:=zgp
 rcases hq with hq | hq
 ·obtain ⟨its,r',pl,hz⟩:=I.list hq;have hlen:=r'.length;exact Calls.call_len_list pl.isList (by simp only [yag]<;>omega) ⟨.int ys.length,H,I.tok _,⟨s.toks+1,by rw [yag,hlen]⟩,q⟩
 ·obtain ⟨its,r',pl,hz⟩:=I.tuple hq;have hlen:=r'.length;exact len_tuple pl (by simp only [yag]<;>omega) ⟨.int ys.length,H,I.tok _,⟨s.toks+1,by rw [yag,hlen]⟩,q⟩
def zgE:zc2 X (.builtin "len") (fun xs H Q=>∃z,xs=[.str z]/\z.length<=sizeLine/\Q (.int z.length) H):=by
 intro pins s σ H xs us Q I r h;obtain ⟨z,rfl,hz,q⟩:=h;obtain ⟨u,rfl,t,rfl⟩:=zeG r;have hn:=zgp;exact len_str (by omega) ⟨.int z.length,H,I.tok _,⟨_,rfl⟩,q⟩
def zdq:zc2 X (.type "tuple") (fun xs H Q=>∃p ys,xs=[.ref p]/\((SqL X.K H p ys/\∀l,H l=none->Q (.ref l) (upd H l (.tup ys)))\/(SqT X.K H p ys/\Q (.ref p) H))):=by
 intro pins s σ H xs us Q I r h;obtain ⟨p,ys,rfl,h⟩:=h;obtain ⟨u,rfl,rx⟩:=zeG r;cases rx
 rcases h with ⟨hq,q⟩ | ⟨hq,q⟩
 ·obtain ⟨its,r',pl,hz⟩:=I.list hq;have hlen:=r'.length;refine call_tuple_list pl.isList (fun h' kp=>?_) (by simp only [yag]<;>omega);have I1:Inv X pins σ H { s with heap:=h' }:=I.kept (t':=s.toks) kp
  have I2:Inv X pins σ (upd H h'.objs.size (.tup ys)) { s with heap:=h'.push { cls:=.type "tuple",data:=.seq its.toArray } } :=
   I1.laid (t':=s.toks) (fun b o e=>yae _ e) (yah _) (show za3 X.prog X.w _ _ _ (.tup ys) from ⟨hz,its,r',IsTup.new _ _⟩)
  exact ⟨.ref h'.objs.size,_,I2,rfl,q _ (I1.hok.fresh (yah _))⟩
 ·obtain ⟨its,r',pl,hz⟩:=I.tuple hq;exact call_tuple_same pl ⟨.ref p,H,I,rfl,q⟩
noncomputable def tyV(K:PySem.W.Frag)(T:String)(x:V)(H:Hp):Prop:=match x with
 | .str _=>T = "str"
 | .int _=>T = "int"
 | .ref p=>(T = "list" /\ ∃xs,SqL K H p xs)\/(T = "tuple" /\ ∃o,K.lookup p=some o/\o.cls=.type "tuple" /\ o.dict=none) ∨
   (T = "dict" /\ ((∃kvs,H p=some (.dK kvs))\/∃kvs,H p=some (.dT kvs)))\/(T = "set" /\ ∃S n,H p=some (.set S n))
 | _=>False
def zpO{pins:Z3}{σ:St}{H:Hp}{s:Shared}{T:String}{x:V}{v:Value}(I:Inv X pins σ H s)(r:zaE x v)(ty:tyV X.K T x H) :
  s.TypeIs v T/\∀a,v=.ref a->∃ob,s.heap.get? a=some ob/\ob.dict=none:=by
 cases x with
 | str z =>
  obtain ⟨t,rfl⟩:=r;cases (show T = "str" from ty);exact ⟨typeIs_str s z t,fun _ e=>nomatch e⟩
 | int i =>
  obtain ⟨t,rfl⟩:=r;cases (show T = "int" from ty);exact ⟨ycX s i t,fun _ e=>nomatch e⟩
 | ref p =>
  cases r
  rcases ty with ⟨rfl,xs,hq⟩ | ⟨rfl,o,hk,hc,hd⟩ | ⟨rfl,hk⟩ | ⟨rfl,S,n,hk⟩
  ·obtain ⟨its,_,pl,_⟩:=I.list hq;refine ⟨pl.isList.typeIs,fun a e=>?_⟩;cases e;obtain ⟨o,n,e,c,hd,_⟩:=pl;exact ⟨o,e,hd⟩
  ·refine ⟨⟨o,I.kIn p o hk,hc⟩,fun a e=>?_⟩;cases e;exact ⟨o,I.kIn _ o hk,hd⟩
  ·have z:∃o,s.heap.get? p=some o/\o.ExactDict:=by
    rcases hk with ⟨kvs,hk⟩ | ⟨kvs,hk⟩
    ·obtain ⟨_,_,_,_,o,_,_,e,ex,_⟩:=I.hok p _ hk;exact ⟨o,e,ex⟩
    ·obtain ⟨_,_,_,_,o,_,_,e,ex,_⟩:=I.hok p _ hk;exact ⟨o,e,ex⟩
   obtain ⟨o,e,ex⟩:=z;refine ⟨⟨o,e,ex.1⟩,fun a e2=>?_⟩;cases e2;exact ⟨o,e,ex.2.1⟩
  ·obtain ⟨o,_,_,_,e,ex,_⟩:=I.hok p _ hk;refine ⟨⟨o,e,ex.1⟩,fun a e2=>?_⟩;cases e2;exact ⟨o,e,ex.2.1⟩
 | _=>exact False.elim ty
noncomputable def tBM(K:PySem.W.Frag)(T:String)(r:V->List V->Hp->VK->Prop)(to:TE)(t:TA):TE:=fun σ H Q=>to σ H fun x H1=>tyV K T x H1/\t σ H1 fun xs H2=>r x xs H2 Q
variable{o e:Expr}{es:List Expr}{to:TE}{t:TA}{name:Str}{apos cpos:Pos}{T id:String}{r:V->List V->Hp->VK->Prop}
def zlI(pa:PlainAttrs T)(slot:Slot T name id)(hty:typeOf (.builtin id)=pure (.type "method_descriptor"))(hm:MtR X id r)(ho:PE X o to)(ha:PA X (e::es) t)
  (hbase:attributeBase o name X.env (eval o X.env)=eval o X.env:=by rfl)
  (hfew:((backTo cpos (starEach (e::es) X.env)).all (fun x=>!x.1)&&(backToKw cpos (keywordEach [] X.env)).all (fun x=>x.1.isSome)
   && decide ((e::es).length+([]:List Keyword).length+(if ([]:List Keyword).isEmpty then 0 else 1)<30))=true:=by rfl)
  (hline:(apos.endLine == cpos.line)=true:=by rfl) (hs:starEach (e::es) X.env=(false,eval e X.env)::starEach es X.env:=by rfl) (hplain:(backTo cpos (starEach es X.env)).any (·.1)=false:=by rfl) :
  PE X (.Call (.Attribute o name apos) (e::es) [] cpos) (tBM X.K T r to t):=by
 intro pins s σ H Q I h;refine wpAny_Call_method_late hbase hfew hline rfl (thn (ho pins s σ H _ I h) fun v s1 ⟨x,H1,I1,r1,ty,q1⟩=>?_);obtain ⟨h1,h2⟩:=zpO I1 r1 ty;refine ⟨T,id,pa,slot,hty,h1,h2,?_⟩;have hA:=ha cpos pins s1 σ H1 _ I1 q1;rw [hs] at hA ⊢;refine yb0 (by show (false||(backTo cpos (starEach es X.env)).any (·.1))=false;rw [hplain]<;>rfl) (ycS ?_);exact thn hA fun us s2 ⟨vs,H2,I2,r2,q2⟩=>hm pins s2 σ H2 x vs v us Q I2 r1 r2 q2
end
end L2
namespace L2
open PySem PySem.Spec PyProof.Rows
noncomputable def MtM(X:Cx)(id:String)(r:V->List V->Hp->VK->Prop):Prop :=
 ∀(pins:Z3) (s:Shared) (σ:St) (H:Hp) (x:V) (xs:List V) (v:Value) (us:List Value) (Q:VK),Inv X pins σ H s->zaE x v->Vals xs us->r x xs H Q →
  wpAny (model X.prog X.w) X.A (call (.builtin id) (v::us)) (EP X pins σ Q) X.xe s
theorem Vals.one:∀{x:V} {us:List Value},Vals [x] us->∃u,us=[u]/\zaE x u
 | _,_,.cons r .nil=>⟨_,rfl,r⟩
theorem Vals.reverse{xs:List V}{us:List Value}(h:Vals xs us):Vals xs.reverse us.reverse:=by
 induction h with
 | nil=>exact .nil
 | cons r t ih=>rw [ycH,ycH];exact Vals.append ih (.cons r .nil)
theorem Vals.rep{xs:List V}{us:List Value}(h:Vals xs us):∀k:Nat,Vals (List.replicate k xs).flatten (List.replicate k us).flatten
 | 0=>.nil
 | k+1=>by
  rw [ybl,ybl,ybM,ybM];exact Vals.append h (Vals.rep h k)
theorem zeu(its:List Value):∀(k:Nat) (acc:List Value),
  List.foldl (fun x1 x2=>x1++x2) acc.toArray (List.replicate k its.toArray)=(acc++(List.replicate k its).flatten).toArray
 | 0,acc=>by simp
 | k+1,acc=>by
  have e:acc.toArray++its.toArray=(acc++its).toArray:=by simp
  have e2:(acc++its)++(List.replicate k its).flatten=acc++(List.replicate (k+1) its).flatten:=by
   rw [ybl,ybM,ybN]
  rw [<-e2,<-zeu its k (acc++its),<-e,ybl,ycZ]
section
variable{X:Cx}{pins:Z3}{σ:St}{H:Hp}{s:Shared}{l b:Addr}{xs ys zs:List V}
def Inv.lset{its its':List Value}{n:Nat}{f:Array Value->Array Value}{t':Nat}(I:Inv X pins σ H s)(hH:H l=some (.lst xs))
  (e:s.heap.get? l=some { cls:=.type "list",data:=.seq its.toArray n }) (hf:f its.toArray=its'.toArray) (hv:Vals ys its') (hz:ys.length<=sizeLine) :
  Inv X pins σ (upd H l (.lst ys)) { s with heap:=s.heap.update l (Obj.mapSeq f),toks:=t' }:=by
 have q:=PySem.IsL.update e f;rw [hf] at q;refine I.write (x:=l) (e:=l) (by rw [hH];exact trivial) (.inl rfl) (fun b' u hb hu=>(ybZ s.heap (Obj.mapSeq f) (Ne.symm hb)).trans hu) ⟨_,q⟩ ?_;exact ⟨hz,its',_,hv,q⟩
def Inv.lnew{its:List Value}{t':Nat}(I:Inv X pins σ H s)(hv:Vals ys its)(hz:ys.length<=sizeLine) :
  Inv X pins σ (upd H s.heap.objs.size (.lst ys)) { s with heap:=s.heap.push { cls:=.type "list",data:=.seq its.toArray },toks:=t' } :=
 I.laid (fun _ _ q=>yae _ q) (yah _) ⟨hz,its,0,hv,yak _ rfl⟩
theorem Inv.fresh(I:Inv X pins σ H s):H s.heap.objs.size=none:=I.hok.fresh (yah _)
def Inv.lstM(I:Inv X pins σ H s)(hH:H l=some (.lst xs)):xs.length<=sizeLine/\∃(its:List Value) (n:Nat),Vals xs its/\xs.length=its.length/\s.heap.get? l=some { cls:=.type "list",data:=.seq its.toArray n }:=by
 obtain ⟨z,its,n,r,e⟩:=I.hok l _ hH;exact ⟨z,its,n,r,r.length,e⟩
def zfu{n:Nat}(h:n<=sizeLine):Builtin.List.listTooLong n=false:=by
 unfold Builtin.List.listTooLong;exact yaE (by omega)
end
section
variable{X:Cx}
noncomputable def zol:V->List V->Hp->VK->Prop:=fun x vs H Q=>∃l xs y,x=.ref l/\vs=[y]/\H l=some (.lst xs)/\xs.length<sizeLine/\Q .non (upd H l (.lst (xs++[y])))
def zj3:MtM X "list.append" zol:=by
 intro pins s σ H x vs v us Q I rx rv h;obtain ⟨l,xs,y,rfl,rfl,hH,hz,q⟩:=h;cases rx;obtain ⟨u,rfl,ru⟩:=rv.one;obtain ⟨z,its,n,r,hl,e⟩:=I.lstM hH;refine ycc F.slot_list_append ⟨_,e,rfl⟩ F.entry_list_append (F.args_list_append_2 _ _) (PySem.list_append l its.toArray n u (by rw [yag];omega)) ⟨e,?_⟩;refine ⟨.non,_,I.lset (its':=its++[u]) hH e (by simp) (r.append (.cons ru .nil)) ?_,rfl,q⟩;rw [yav,List.length_singleton];omega
noncomputable def zok:V->List V->Hp->VK->Prop:=fun x vs H Q=>∃l b xs zs,x=.ref l/\vs=[.ref b]/\H l=some (.lst xs)/\H b=some (.lst zs)/\xs.length+zs.length<=sizeLine/\Q .non (upd H l (.lst (xs++zs)))
def zj2:MtM X "list.extend" zok:=by
 intro pins s σ H x vs v us Q I rx rv h;obtain ⟨l,b,xs,zs,rfl,rfl,hH,hB,hz,q⟩:=h;cases rx;obtain ⟨u,rfl,ru⟩:=rv.one;cases ru;obtain ⟨z,its,n,r,hl,e⟩:=I.lstM hH;obtain ⟨z2,its2,n2,r2,hl2,e2⟩:=I.lstM hB
 have hsz:its.toArray.size+its2.toArray.size<=sizeLine:=by rw [yag,yag];omega
 have hlong:¬ (!its.toArray.isEmpty&&Builtin.List.listTooLong (its.toArray.size+its2.toArray.size))=true:=by
  rw [zfu hsz,Bool.and_false];exact yaU
 refine ycc F.slot_list_extend ⟨_,e,rfl⟩ F.entry_list_extend (F.args_list_extend_2 _ _)
  (AutoSeq1.list_extend_list_list_0 l its.toArray n b its2.toArray n2 hlong (by rw [yag];omega) (by omega)) ⟨e,e2,?_⟩
 refine ⟨.non,_,I.lset (its':=its++its2) hH e (by simp) (r.append r2) ?_,rfl,q⟩;rw [yav];omega
noncomputable def zxU:R2:=fun x y H Q=>∃l b xs zs,x=.ref l/\y=.ref b/\H l=some (.lst xs)/\H b=some (.lst zs)/\xs.length+zs.length<=sizeLine/\∀p,H p=none->Q (.ref p) (upd H p (.lst (xs++zs)))
def zrc:OpR X (binaryOp .Add) zxU:=by
 intro pins s σ H x y v u Q I rx ry h;obtain ⟨l,b,xs,zs,rfl,rfl,hH,hB,hz,q⟩:=h;cases rx;cases ry;obtain ⟨z,its,n,r,hl,e⟩:=I.lstM hH;obtain ⟨z2,its2,n2,r2,hl2,e2⟩:=I.lstM hB;refine PySem.P.add_list e e2 ?_ (by rw [yag,yag];omega)
 have ea:its.toArray++its2.toArray=(its++its2).toArray:=by simp
 rw [ea];exact ⟨.ref _,_,I.lnew (t':=s.toks) (r.append r2) (by rw [yav];omega),rfl,q _ I.fresh⟩
noncomputable def zxR:R2:=fun x y H Q=>∃l k xs,x=.ref l/\y=.int k/\H l=some (.lst xs)/\-(2 ^ 63)<=k/\k<2 ^ 63/\xs.length*k.toNat<=sizeLine ∧
 ∀p,H p=none->Q (.ref p) (upd H p (.lst (List.replicate k.toNat xs).flatten))
def zhd{α:Type}(xs:List α)(k:Nat):(List.replicate k xs).flatten.length=k*xs.length:=by
 induction k with
 | zero=>simp
 | succ k ih=>rw [ybl,ybM,yav,ih,Nat.succ_mul,Nat.add_comm]
def znd:OpR X (binaryOp .Mult) zxR:=by
 intro pins s σ H x y v u Q I rx ry h;obtain ⟨l,k,xs,rfl,rfl,hH,h1,h2,hz,q⟩:=h;cases rx;obtain ⟨t,rfl⟩:=ry;obtain ⟨z,its,n,r,hl,e⟩:=I.lstM hH
 have hlen:its.toArray.size*k.toNat<=sizeLine:=by rw [yag,<-hl];exact hz
 have hcap:¬ its.toArray.size*k.toNat > (2 ^ 63-1) / 8:=by
  have:(sizeLine:Nat)<=(2 ^ 63-1) / 8:=by decide
  omega
 have hfit:¬ (!Builtin.List.listFitsIndex k)=true:=by
  rw [fitsIndex_both h1 h2];exact yaU
 have hlong:¬ Builtin.List.listTooLong (its.toArray.size*k.toNat)=true:=by
  rw [zfu hlen];exact yaU
 have hnew:List.foldl (fun x1 x2=>x1++x2) #[] (List.replicate (if its.toArray.isEmpty=true then 0 else k.toNat) its.toArray)=(List.replicate k.toNat its).flatten.toArray:=by
  have f0:∀m:Nat,List.foldl (fun x1 x2=>x1++x2) #[] (List.replicate m its.toArray)=(List.replicate m its).flatten.toArray:=fun m=>by
   have:=zeu its m [];rwa [List.nil_append] at this
  rw [f0]
  cases its with
  | nil=>simp
  | cons a r'=>rw [if_neg (by simp)]
 refine ycg (T:="list") (U:="int") (by decide) ⟨_,e,rfl⟩ (fun s'=>ycX s' k t) noFill_list_mul F.fills_int_mul yb5 repeat_list F.slot_int_index.lookup
  (ycc yb5 (ycX s k t) F.entry_int_rmul (ydg _ _) (int___rmul___int_list k t l its.toArray n)
   ⟨e,rfl,⟨_,e,rfl⟩,ycc F.slot_list_mul ⟨_,e,rfl⟩ F.entry_list_mul (F.args_list_mul_2 _ _) (AutoListH.list___mul___list_int_3 l its.toArray n k t hfit hcap hlong) ⟨e,?_⟩⟩)
 rw [hnew];exact ⟨.ref _,_,I.lnew (t':=s.toks) (r.rep k.toNat) (by rw [zhd,Nat.mul_comm];exact hz),rfl,q _ I.fresh⟩
end
section
variable{prog:Program}{w:World}{A:Around}{E:Z5}{s:Shared}
end
section
variable{X:Cx}
end
end L2
namespace Att
open PySem PySem.W PySem.Calls PyProof.Rows
def zes{P:Params}{h:Heap}:∀(ns:List Int) (vs:List Value),WellAll P h vs (ns.map WData.int)->IntsAre vs ns:=by
 intro ns
 induction ns with
 | nil =>
  intro vs w;rw [List.map_nil] at w;cases w;exact .nil
 | cons n ns ih =>
  intro vs w;rw [yau] at w
  cases w with
  | cons a b =>
   cases a;exact .cons _ _ (ih _ b)
def zju{l:OpenLaw}{n:Nat}(hn:l.most=some n){P:Params}{h:Heap}{args:List WData}{vals:List Value}
  (hpre:l.row.toRowW.claim.pre args=true) (hwl:WellAll P h vals args) :
  ∃a vs ns,vals=[Value.ref a]/\args=[WData.list (ns.map WData.int)]/\h.get? a=some { cls:=.type "list",data:=.seq vs.toArray }/\IntsAre vs ns/\ns.length<=n:=by
 have hsh:WShape.hasAll [] args [.list .int]=true:=(pre_splitW hpre).1;have hc:l.pre.holds [] { args:=args }=true:=(pre_splitW hpre).2;obtain ⟨d,r,rfl,h1,h2⟩:=hasAllW_cons hsh;obtain rfl:=hasAllW_nil h2;obtain ⟨xs,rfl,h3⟩:=hasW_list h1;obtain ⟨ns,rfl⟩:=items_int h3
 have hlen:ns.length<=n:=by
  unfold OpenLaw.pre at hc
  have h4:(WTm.not (.lt (.lit (.int (n:Int))) (.len (.arg 0)))).holds [] { args:=[.list (ns.map .int)] }=true:=by
   have h4:=(holds_andW hc).1;rwa [hn] at h4
  have h5:=condW_of h4 (w_not (w_lt w_lit (w_len_list (w_arg rfl))));rw [yaf] at h5;refine Nat.le_of_not_lt fun q=>?_
  have q':(n:Int)<((ns.length:Nat):Int):=by omega
  first
   | (rw [yaH q'] at h5;exact absurd h5 (by decide))
   | (simp at h5;omega)
 cases hwl with
 | cons w1 w2 =>
  cases w2
  cases w1 with
  | list ho hall=>exact ⟨_,_,ns,rfl,rfl,ho,zes ns _ hall,hlen⟩
def zjH(l:OpenLaw)(args:List WData):l.row.toRowW.claim.post args (.bool true) args=true :=
 postW_of (r:=l.row.toRowW) (X:=(true == true))
  (show WShape.has [] (.bool true) .bool=true by first | rfl | decide | simp [WShape.has,WShape.arms,WShape.armsAll])
  (show (WTm.eq .res (.lit (.bool true))).value [] { args:=args,res:=some (.bool true),after:=args }=some (.bool (true == true)) from w_eq_bool (w_res rfl) w_lit) rfl
def zhr{l:OpenLaw}{n:Nat}{q:Program}{loose:List Str}{XP:(Str->Option Value)->Heap->Prop}{YP:World->Heap->Prop}{d:DefRec}
  (hn:l.most=some n) (hdf:d.params.defaults=[])
  (call:∀(w:World) (s₀ s₁:Shared) (mg mb:Z6) (fa:Addr) (o:Obj) (pm cd doc:Value) (a:Addr) (vs:List Value) (ns:List Int),
   Ground q loose [] XP w s₀ mg mb s₁.heap->YP w s₁.heap →
   s₁.heap.get? fa=some o->o.data=.func (docDef d.name d.params d.body d.scope pm cd doc)->s₁.heap.CodeRec cd d.name->mg d.name=some (.ref fa) →
   s₁.heap.get? a=some { cls:=.type "list",data:=.seq vs.toArray }->IntsAre vs ns->ns.length<=n->s₁.gens=#[] →
   codeAny (model l.prog w) callerA (.call (.ref fa) ⟨[.ref a],[]⟩) (fun r s'=>r=.ok (.ret (.bool true))/\OldK s₁.heap s'.heap/\s'.os=s₁.os/\AllBare s'.gens) s₁) :
  WalkO q loose XP YP l.row.toRowW d [] (fun f vs=>PySem.call f vs):=by
 intro w s₀ s₁ mg mb G Y fa o pm cd doc dV kV ho hd hcd hD hmg hg args vals as hpre hlay hrd hwl hlo;obtain rfl:dV=.none:=Dflts.none hD hdf;obtain rfl:kV=.none:=Dflts.noKw hD;obtain ⟨a,vs,ns,rfl,rfl,hobj,hints,hlen⟩:=zju hn hpre hwl;refine enter_call (ycN (call w s₀ s₁ mg mb fa o pm cd doc a vs ns G Y ho (fd_plain hd) hcd hmg hobj hints hlen hg) fun r s' hq=>?_);obtain ⟨rfl,h2,h3,h4⟩:=hq;exact ⟨.inl ⟨.bool true,.bool true,[],rfl,fun _=>rfl,.bool true,zjH l _,fun _=>⟨List.Pairwise.nil,fun _ hm=>(nomatch hm)⟩⟩,h2,h3,h4⟩
section
variable{prog:Program}{w:World}{A:Around}{E:Z5}{s:Shared}{K:Frag}
end
end Att
namespace L2
open PySem PySem.Spec PyProof.Rows
theorem zfS:∀{vs:List Value} {ns:List Int},IntsAre vs ns->Vals (ns.map V.int) vs
 | _,_,.nil=>.nil
 | _,_,.cons n t h=>.cons ⟨t,rfl⟩ (zfS h)
noncomputable def zsT(H:Hp):Prop:=∀b,H b=none\/∃o xs,H b=some (.frz o (.lst xs))
def zl5{P:Program}{w:World}{K:PySem.W.Frag}{mg mb:Z6}{CX:CXT}{k:Nat}{fa a:Addr}{fd:FuncData}{x:Str}{sp:Sp}{s₁:Shared}{vs:List Value}{ns:List Int}
  (KX:K.In s₁.heap) (hns:s₁.heap.Ns mainGlobals mg) (hb:s₁.heap.Ns builtinsNs mb) (hbb:∀x:Str,x ≠ "__name__" -> mb x=bootBuiltins x) (hlim:s₁.heap.NoLimit) (hg:s₁.gens=#[])
  (ha:s₁.heap.get? a=some { cls:=.type "list",data:=.seq vs.toArray }) (hi:IntsAre vs ns) (hl:ns.length<=sizeLine) (hr:Room k callerA)
  (F:∀base:Heap,K.In base->base.Ns mainGlobals mg->FnOk P w K mg base CX k fa fd [x] sp) (hbind:∀(s:Shared) (u:Value),BindsTo s fd ⟨[u],[]⟩ [(x,u)])
  (hsp:∀H:Hp,zsT H->SqL K H a (ns.map V.int)->sp [.ref a] H (fun v _=>v=.bl true) fun _ _ _=>False)
  (hCX:∀H e s',CX [] H s₁ (fun _ _ _=>False) e s'->False) :
  codeAny (model P w) callerA (.call (.ref fa) ⟨[.ref a],[]⟩) (fun r s'=>r=.ok (.ret (.bool true))/\OldK s₁.heap s'.heap/\s'.os=s₁.os/\AllBare s'.gens) s₁:=by
 have rv:=zfS hi;have lenV:=hi.length
 have core:∀H:Hp,zsT H->SqL K H a (ns.map V.int)->HOk P w H s₁.heap->(∀b,H b≠none->b=a)->(H a≠none->K.lookup a=none) →
   codeAny (model P w) callerA (.call (.ref fa) ⟨[.ref a],[]⟩) (fun r s'=>r=.ok (.ret (.bool true))/\OldK s₁.heap s'.heap/\s'.os=s₁.os/\AllBare s'.gens) s₁:=by
  intro H hO hS hok hA hK;have zc1:∀{b:Addr} {o:Obj},s₁.heap.get? b=some o->H b=none->(zmi s₁.heap H).get? b=some o:=fun e n=>zmh e n
  have noA:∀{b:Addr} {o:Obj} {es:Array DictEntry} {ep:Nat},s₁.heap.get? b=some o->o.data=.dict es ep->H b=none:=fun {b o es ep} e d=>by
   cases q:H b with
   | none=>rfl
   | some u =>
    have e':b=a:=hA b (by rw [q];simp);subst e';rw [ha] at e;cases e;have d':Data.seq vs.toArray _=Data.dict es ep:=d;cases d'
  have nsK:∀{b:Addr} {m:Z6},s₁.heap.Ns b m->(zmi s₁.heap H).Ns b m:=fun {b m} ⟨o,es,ep,e,d,r⟩=>⟨o,es,ep,zc1 e (noA e d),d,r⟩
  have hKb:K.In (zmi s₁.heap H):=fun b o e=>zc1 (KX b o e) (by
   cases q:H b with
   | none=>rfl
   | some u =>
    have e':b=a:=hA b (by rw [q];simp);subst e'
    rw [hK (by rw [q];simp)] at e;cases e)
  have hM:Mod K mg (zmi s₁.heap H):=⟨hKb,nsK hns,⟨mb,nsK hb,hbb⟩,let ⟨mc,h1,h2⟩:=hlim;⟨mc,nsK h1,h2⟩⟩;have e0:Env0 P w K mg (zmi s₁.heap H) callerA [] s₁ H:=⟨rfl,hM,fun b o e=>zoF e,yc5 (zkw _ _),trivial,fun b hb=>absurd (show b∈([]:List Addr) from hb) (by simp),hok,.of_eq hg⟩;refine ycN ((F _ hKb (nsK hns)).run callerA [] s₁ H ⟨[.ref a],[]⟩ [.ref a] [.ref a] _ _ hr e0 (hbind s₁ (.ref a)) (.cons rfl .nil) (hsp H hO hS)) fun r s' h=>?_
  cases r with
  | error e=>exact (hCX H e s' h).elim
  | ok fl =>
   cases fl with
   | next=>exact False.elim h
   | brk=>exact False.elim h
   | cont=>exact False.elim h
   | ret u =>
    obtain ⟨v,H',os,bare,un,hok',r',q⟩:=h;have q':v=.bl true:=q;subst q';obtain rfl:u=Value.bool true:=r';refine ⟨rfl,OldK.of_keep fun b o e=>?_,os,bare⟩
    cases q:H b with
    | none=>exact un.keep b o e q (by intro z;exact absurd (show b∈([]:List Addr) from z) (by simp)) (by simp)
    | some u =>
     rcases hO b with z | ⟨ob,xs,z⟩
     ·rw [q] at z;cases z
     ·have z2:=un.frzs b ob _ z;obtain ⟨e1,_⟩:=hok b _ z;obtain ⟨e2,_⟩:=hok' b _ z2;rw [e] at e1;cases e1;exact e2
 cases hk:K.lookup a with
 | some o =>
  have e:=KX a o hk;rw [ha] at e;cases e;refine core (fun _=>none) (fun _=>.inl rfl) (.inr ⟨_,vs.toArray,_,hk,rfl,rfl,rfl,by rw [yag,lenV];exact hl,by simpa using rv⟩) (fun b u z=>by have z':(none:Option HO)=some u:=z;cases z') (fun b z=>absurd rfl z) fun z=>absurd rfl z
 | none =>
  refine core (fun b=>if b=a then some (.frz { cls:=.type "list",data:=.seq vs.toArray } (.lst (ns.map V.int))) else none) (fun b=>?_) (.inl (.inr ⟨{ cls:=.type "list",data:=.seq vs.toArray },if_pos rfl⟩)) (fun b u z=>?_) (fun b z=>?_) fun _=>hk
  ·by_cases hb:b=a
   ·exact .inr ⟨_,_,if_pos hb⟩
   ·exact .inl (if_neg hb)
  ·by_cases hb:b=a
   ·have z':=(if_pos hb).symm.trans z;cases z';subst hb;exact ⟨ha,by rw [yaf];exact hl,vs,_,rv,ha⟩
   ·have z':=(if_neg hb).symm.trans z;cases z'
  ·by_cases hb:b=a
   ·exact hb
   ·exact absurd (if_neg hb) z
end L2
namespace L2
open PySem PySem.Spec PyProof.Rows
def znF{l:PySem.W.OpenLaw}{n k:Nat}{q:Program}{loose:List Str}{XP:(Str->Option Value)->Heap->Prop}{YP:World->Heap->Prop}{d:DefRec}{K:Params->PySem.W.Frag}{CX:World->CXT}{sp:World->Sp}{x:Str}
  (hn:l.most=some n) (hn2:n<=sizeLine) (hdf:d.params.defaults=[]) (hr:Room k callerA)
  (hY:∀(w:World) (h:Heap),YP w h->(K w.params).In h)
  (F:∀(w:World) (mg:Z6) (fa:Addr) (h:Heap),(K w.params).In h->h.Ns mainGlobals mg->mg d.name=some (.ref fa) →
   ∃fd:FuncData,(∀(s:Shared) (u:Value),BindsTo s fd ⟨[u],[]⟩ [(x,u)]) ∧
    ∀base:Heap,(K w.params).In base->base.Ns mainGlobals mg->FnOk l.prog w (K w.params) mg base (CX w) k fa fd [x] (sp w))
  (hsp:∀(w:World) (H:Hp) (a:Addr) (ns:List Int),ns.length<=n->zsT H->SqL (K w.params) H a (ns.map V.int)->sp w [.ref a] H (fun v _=>v=.bl true) fun _ _ _=>False)
  (hCX:∀(w:World) (H:Hp) (s:Shared) (e:Value) (s':Shared),CX w [] H s (fun _ _ _=>False) e s'->False) :
  PySem.W.WalkO q loose XP YP l.row.toRowW d [] (fun f vs=>PySem.call f vs):=by
 refine Att.zhr hn hdf fun w s₀ s₁ mg mb fa o pm cd doc a vs ns G Y ho hd hcd hmg hobj hints hlen hg=>?_
 have KX:=hY w _ Y;obtain ⟨fd,hb,hF⟩:=F w mg fa _ KX G.T.g hmg;exact zl5 KX G.T.g G.T.b G.T.builtins G.T.nolimit hg hobj hints (yaq hlen hn2) hr hF hb (fun H hO hS=>hsp w H a ns hlen hO hS) fun H e s'=>hCX w H s₁ e s'
end L2
namespace L2
open PySem PySem.Spec PyProof.Rows
noncomputable def zbS(s:Stmt):Arguments:=match s with
 | .FunctionDef _ a _ _ _ _ _ _ _ _=>a
 | _=>{ posonlyargs:=[],args:=[],vararg:=none,kwonlyargs:=[],kw_defaults:=[],kwarg:=none,defaults:=[] }
noncomputable def zbF(s:Stmt):List Stmt:=match s with
 | .FunctionDef _ _ b _ _ _ _ _ _ _=>b
 | _=>[]
noncomputable def zac(s:Stmt):Scope:=match s with
 | .FunctionDef _ _ _ _ _ _ sc _ _ _=>sc
 | _=>{ kind:=.function,names:=[],isGenerator:=false,isCoroutine:=false }
structure Fun(K:PySem.W.Frag)(x qual:Str)(st:Stmt)(f:Addr)(fd:FuncData):Prop where
 ex:∃(oc:Value) (od:Option Addr) (kV doc pm:Value) (an:Option Addr) (cdv ct:Value) (osl:Array (Option Value)),
  fd=PySem.W.fnOf x qual (zbS st) (zbF st) (zac st) .none kV doc pm an cdv ct/\K.lookup f=some ⟨oc,od,.func fd,osl⟩/\PySem.W.codeIn K cdv qual=true
 kp:PySem.W.keepIn K (.ref f)=true
section
variable{P:Program}{w:World}{K:PySem.W.Frag}{mg:Z6}{base:Heap}
def Fun.binds{x qual:Str}{st:Stmt}{f:Addr}{fd:FuncData}{ps:List Str}(F:Fun K x qual st f fd)
  (h:∀(kV doc pm:Value) (an:Option Addr) (cdv ct:Value) (us:List Value),us.length=ps.length->bindArgs (PySem.W.fnOf x qual (zbS st) (zbF st) (zac st) .none kV doc pm an cdv ct) ⟨us,[]⟩=pure (ps.zip us)):zcH K fd ps []:=by
 obtain ⟨oc,od,kV,doc,pm,an,cdv,ct,osl,rfl,lk,hcd⟩:=F.ex;exact .all (h kV doc pm an cdv ct)
def znr{x qual:Str}{st:Stmt}{f:Addr}{oc:Value}{od an:Option Addr}{osl:Array (Option Value)}{kV doc pm cdv ct:Value}(l:K.lookup f=some ⟨oc,od,.func (PySem.W.fnOf x qual (zbS st) (zbF st) (zac st) .none kV doc pm an cdv ct),osl⟩)
  (c:PySem.W.codeIn K cdv qual=true) (k:PySem.W.keepIn K (.ref f)=true):Fun K x qual st f (PySem.W.fnOf x qual (zbS st) (zbF st) (zac st) .none kV doc pm an cdv ct):=⟨⟨oc,od,kV,doc,pm,an,cdv,ct,osl,rfl,l,c⟩,k⟩
end
section
variable{X:Cx}
end
def znp{A B:Prop}(h:B):if false=true then A else B:=by
 rw [if_neg yaU];exact h
def zno{A B:Prop}(h:A):if true=true then A else B:=by
 rw [if_pos rfl];exact h
end L2
namespace L2
open PySem PySem.Spec PyProof.Rows
def ziQ{scope:Scope}{env:Env}(h:∀y∈scope.names,y.2=.free->∃c,env.cells.lookup y.1=some c) :
  ∃cl,closureFor scope env=pure cl/\(∀y c,cl.lookup y=some c->env.cells.lookup y=some c)/\∀y,(y,NameKind.free)∈scope.names->∃c,cl.lookup y=some c:=by
 unfold closureFor
 have key:∀(l:List (Str×NameKind)) (cs:List (Str×Addr)),(∀y∈l,y.2=.free->∃c,env.cells.lookup y.1=some c)->(∀y c,cs.lookup y=some c->env.cells.lookup y=some c) →
   ∃cl,(forIn l cs fun (x:Str×NameKind) (r:List (Str×Addr))=>(if (x.2 == NameKind.free)=true then (do let c ← cellOf env x.1;pure (ForInStep.yield ((x.1,c)::r))) else pure (ForInStep.yield r):Sem (ForInStep (List (Str×Addr)))))=pure cl ∧
    (∀y c,cl.lookup y=some c->env.cells.lookup y=some c)/\(∀y,(y,NameKind.free)∈l->∃c,cl.lookup y=some c)/\(∀y c,cs.lookup y=some c->∃c',cl.lookup y=some c'):=by
  intro l
  induction l with
  | nil=>intro cs _ hc;exact ⟨cs,rfl,hc,fun y hy=>by simp at hy,fun y c e=>⟨c,e⟩⟩
  | cons p l ih =>
   intro cs hl hc;obtain ⟨n,k⟩:=p
   by_cases hk:(k == NameKind.free)=true
   ·have ek:k=.free:=eq_of_beq hk;obtain ⟨c,ec⟩:=hl (n,k) yaD ek
    obtain ⟨cl,e1,e2,e3,e4⟩:=ih ((n,c)::cs) (fun y hy=>hl y (yaw _ hy)) (fun y c' e=>by
     rw [yaA] at e
     cases hq:y == n with
     | true=>rw [hq] at e;cases e;rw [eq_of_beq hq];exact ec
     | false=>rw [hq] at e;exact hc y c' e)
    refine ⟨cl,?_,e2,fun y hy=>?_,fun y c' e=>?_⟩
    ·rw [List.forIn_cons];show ((if (k == NameKind.free)=true then _ else _) >>= _)=_;rw [if_pos hk]
     have ecell:cellOf env n=pure c:=by unfold cellOf;rw [ec]
     show (cellOf env n >>= _) >>= _=_;rw [ecell];simpa using e1
    ·rcases yat.mp hy with z | hy
     ·cases z;exact e4 n c (by rw [yaA];simp)
     ·exact e3 y hy
    ·cases hq:y == n with
     | true=>exact e4 y c (by rw [yaA,hq])
     | false=>exact e4 y c' (by rw [yaA,hq];exact e)
   ·obtain ⟨cl,e1,e2,e3,e4⟩:=ih cs (fun y hy=>hl y (yaw _ hy)) hc;refine ⟨cl,?_,e2,fun y hy=>?_,e4⟩
    ·rw [List.forIn_cons];show ((if (k == NameKind.free)=true then _ else _) >>= _)=_;rw [if_neg hk];simpa using e1
    ·rcases yat.mp hy with z | hy
     ·cases z;exact absurd rfl hk
     ·exact e3 y hy
 obtain ⟨cl,e1,e2,e3,_⟩:=key scope.names [] h (fun y c e=>by simp at e);refine ⟨cl,?_,e2,e3⟩;show ((forIn scope.names [] _:Sem (List (Str×Addr))) >>= _)=_;have e1':=congrArg (fun m=>m >>= (pure:List (Str×Addr)->Sem (List (Str×Addr)))) e1;simpa using e1
noncomputable def PIf(X:Cx)(ifs:List Expr)(t:TT):Prop :=
 ∀(pins:Z3) (s:Shared) (σ:St) (H:Hp) (Q:Bool->Hp->Prop),Inv X pins σ H s->t σ H Q →
  wpAny (model X.prog X.w) X.A (forIn ifs true fun c r=>if r=true then do let ok ← isTrue c X.env (eval c X.env);pure (ForInStep.yield ok) else pure (ForInStep.yield r)) (TP X pins σ Q) X.xe s
noncomputable def zxE:TT:=fun _ H Q=>Q true H
def zov{X:Cx}:PIf X [] zxE:=fun _ _ _ H _ I h=>wpAny_tests_nil ⟨H,I,h⟩
def zou{X:Cx}{c:Expr}{t:TT}(h:PT X c t):PIf X [c] t:=fun pins s σ H Q I hw=>wpAny_tests_one (h pins s σ H Q I hw)
theorem zdK{scope:Scope}{env:Env}:∀{names:List (Str×NameKind)} {y:Str},(y,NameKind.free)∈names->(∀z∈names,z.1=y->z.2=.free) →
  (names.map fun (n,k)=>if (k == NameKind.free&&env.scope.kind == .function&&env.kindOf n == some .cell) then (n,NameKind.cell) else (n,k)).lookup y=some .cell ∨
  (names.map fun (n,k)=>if (k == NameKind.free&&env.scope.kind == .function&&env.kindOf n == some .cell) then (n,NameKind.cell) else (n,k)).lookup y=some .free
 | [],_,h,_=>by simp at h
 | (n,k)::r,y,h,u=>by
  rw [yau];show List.lookup y ((if (k == NameKind.free&&env.scope.kind == .function&&env.kindOf n == some .cell)=true then (n,NameKind.cell) else (n,k))::_)=_\/List.lookup y ((if (k == NameKind.free&&env.scope.kind == .function&&env.kindOf n == some .cell)=true then (n,NameKind.cell) else (n,k))::_)=_
  cases hq:y == n with
  | true =>
   have e:n=y:=(eq_of_beq hq).symm;have ek:k=.free:=u (n,k) yaD e
   by_cases hc:(k == NameKind.free&&env.scope.kind == .function&&env.kindOf n == some .cell)=true
   ·rw [if_pos hc];left;simp [yaA,hq]
   ·rw [if_neg hc];right;simp [yaA,hq,ek]
  | false =>
   have hy:(y,NameKind.free)∈r:=by
    rcases yat.mp h with z | z
    ·cases z;simp at hq
    ·exact z
   have ih:=zdK (scope:=scope) (env:=env) hy fun z hz=>u z (yaw _ hz)
   by_cases hc:(k == NameKind.free&&env.scope.kind == .function&&env.kindOf n == some .cell)=true
   ·rw [if_pos hc];simpa [yaA,hq] using ih
   ·rw [if_neg hc];simpa [yaA,hq] using ih
def Inv.track{X:Cx}{pins:Z3}{σ:St}{H:Hp}{s:Shared}{D:Addr}{o:HO}(I:Inv X pins σ H s)(hn:H D=none)(h1:X.s₀.heap.objs.size<=D)(h2:D≠X.env.locals)(h3:∀x c,X.env.cells.lookup x=some c->c≠D)(h4:∀p∈X.pn++pins,p.1≠D)
  (new:za3 X.prog X.w (upd H D o) s.heap D o):Inv X pins σ (upd H D o) s:=by
 have nD:∀b u,H b=some u->b≠D:=fun b u e=>zai e hn
 obtain ⟨h',g',d',t',o'⟩:=s;refine I.step (h':=h') (g':=g') (d':=d') (t':=t') (ch:=[D]) (fun b hb=>?_) (fun b o _ _ _ e _=>e) (fun b o _ _ _ e _=>⟨o.slots,e⟩) (fun b o hc e n=>?_) (fun b o _ e=>⟨o,e⟩) (fun b xs e=>?_) (fun b o u e=>?_) (fun b ps e=>?_) (fun m hm=>hm) (fun b u e=>?_) I.bare
 ·have e:b=D:=by simpa using hb
  subst e;exact ⟨.inr h1,h2,h3,h4⟩
 ·rw [zag (fun z=>hc (by simp [z]))];exact n
 ·rw [zag (nD _ _ e)];exact e
 ·rw [zag (nD _ _ e)];exact e
 ·exact ⟨#[],by rw [zag (nD _ _ e),e];simp⟩
 ·by_cases hb:b=D
  ·subst hb;rw [zam] at e;cases e;exact new
  ·rw [zag hb] at e
   exact (I.hok b u e).stay (fun _ _ _ q=>q) (fun c q=>by rw [zag (nD _ _ q)];exact q) fun c xs q=>by rw [zag (nD _ _ q)];exact q
section
variable{X:Cx}{elt iter:Expr}{x:Str}{px pos:Pos}{ifs:List Expr}{scope:Scope}{caps:List (Str×Nat)}{wi:TI}{tt:TT}{te:TE}
noncomputable abbrev lob(its:List Value)(k:Nat):Obj:={ cls:=.type "list",data:=.seq its.toArray k }
end
end L2
namespace L2
open PySem PySem.Spec PyProof.Rows
section
variable{X:Cx}{elt iter:Expr}{x:Str}{px pos:Pos}{ifs:List Expr}{scope:Scope}{caps:List (Str×Nat)}{wi:TI}{tt:TT}{te:TE}
end
end L2
namespace L2
open PySem PySem.Spec PyProof.Rows
section
variable{prog:Program}{w:World}{A:Around}{R:Result->Shared->Prop}{s:Shared}
theorem zl0{elt target iter:Expr}{ifs:List Expr}{scope:Scope}{pos:Pos}{it acc:Value}{env:Env}(I:Nat->Shared->Prop)
  (turn:∀n s,I n s->wpAny (model prog w) A (pyNext it) (fun r s₁=>match r with
   | none=>R (.ok .next) s₁
   | some v=>wpAny (model prog w) A (letOwnedTupleGo target it v) (fun _ s₀=>wpAny (model prog w) A (assign target env v) (fun _ s₂ =>
     wpAny (model prog w) A (forIn ifs true fun c r=>if r=true then do let ok ← isTrue c env (eval c env);pure (ForInStep.yield ok) else pure (ForInStep.yield r)) (fun ok s₃ =>
      if ok=true then wpAny (model prog w) A (eval elt env) (fun x s₄ =>
       wpAny (model prog w) A (call (.builtin "list.append") [acc,x]) (fun _ s₅=>∃m,m<n/\I m s₅) (notedBy (model prog w) A env fun e s'=>R (.error e) s') s₄) (notedBy (model prog w) A env fun e s'=>R (.error e) s') s₃
      else ∃m,m<n/\I m s₃) (notedBy (model prog w) A env fun e s'=>R (.error e) s') s₂) (notedBy (model prog w) A env fun e s'=>R (.error e) s') s₀) (notedBy (model prog w) A env fun e s'=>R (.error e) s') s₁) (notedBy (model prog w) A env fun e s'=>R (.error e) s') s)
  (n:Nat) (h:I n s):codeAny (model prog w) A (.compLoop (.ListComp elt [⟨target,iter,ifs,0⟩] scope pos) 0 it acc env) R s:=by
 refine codeAny_loop rfl I (fun n s hI=>?_) n h;show wpAny _ A ((compTurn (.ListComp elt [⟨target,iter,ifs,0⟩] scope pos) 0 it acc env).onRaise (fun x=>do noteFrame x env;theTreesLotGoes x)) _ _ s;refine wpAny_noted ?_;rw [compTurn_list];refine yaa (ydl (yaa (ybx (turn n s hI) (fun r s₁ h₁=>?_) fun _ _ h'=>h')))
 cases r with
 | none=>exact yac h₁
 | some v =>
  refine yaa (ybx h₁ (fun _ s₀ h₀=>?_) fun _ _ h'=>h');refine yaa (ybx h₀ (fun _ s₂ h₂=>yaa (ybx h₂ (fun ok s₃ h₃=>?_) fun _ _ h'=>h')) fun _ _ h'=>h')
  cases ok with
  | false=>exact yac ⟨rfl,h₃⟩
  | true =>
   exact yaa (yaa (ybx h₃ (fun x s₄ h₄=>yaa (ybx h₄ (fun _ s₅ h₅=>yac (yac ⟨rfl,h₅⟩)) fun _ _ h'=>h')) fun _ _ h'=>h'))
end
theorem zaO:∀(names:List (Str×NameKind)) (n:Nat) (acc:List (Str×Addr)),cellsFrom n names acc=cellsFrom n names []++acc
 | [],_,_=>rfl
 | (x,k)::r,n,acc=>by
  unfold cellsFrom;split
  ·rw [zaO r (n+1) ((x,n)::acc),zaO r (n+1) [(x,n)]];simp
  ·exact zaO r n acc
theorem zb7:∀(names:List (Str×NameKind)) (n:Nat) {x:Str} {c:Addr},(x,c)∈cellsFrom n names []->(x,NameKind.cell)∈names
 | [],_,_,_,h=>by cases h
 | (y,k)::r,n,x,c,h=>by
  unfold cellsFrom at h;split at h
  ·rename_i hk;rw [zaO] at h
   rcases ybo.mp h with h | h
   ·exact yaw _ (zb7 r _ h)
   ·rw [yaJ] at h;cases h;rw [ycW.mp hk];exact yaD
  ·exact yaw _ (zb7 r _ h)
theorem zby{α:Type}{x:Str}:∀{l m:List (Str×α)},(l++m).lookup x=(l.lookup x).or (m.lookup x)
 | [],m=>rfl
 | (y,a)::l,m=>by
  rw [List.cons_append,yaA,yaA]
  cases x == y with
  | true=>rfl
  | false=>exact zby
theorem zbv:∀(names:List (Str×NameKind)) (n:Nat) {x:Str},(x,NameKind.cell)∈names->∃c,(cellsFrom n names []).lookup x=some c
 | [],_,_,h=>by cases h
 | (y,k)::r,n,x,h=>by
  unfold cellsFrom;split
  ·rename_i hk;rw [zaO,zby]
   rcases yat.mp h with e | h
   ·cases e
    cases hq:(cellsFrom (n+1) r []).lookup y with
    | some c=>exact ⟨c,rfl⟩
    | none=>exact ⟨n,by simp [yaA]⟩
   ·obtain ⟨c,e⟩:=zbv r (n+1) h;rw [e];exact ⟨c,rfl⟩
  ·rename_i hk
   rcases yat.mp h with e | h
   ·cases e;exact absurd rfl hk
   ·exact zbv r n h
def zbN{M:Model}{A:Around}{E:Z5}{s:Shared}{scope:Scope}{globals:Addr}{closure:List (Str×Addr)}{qual:Str}{func:Option Addr}{code:Value}{outer:Env}{builtins:Addr}{Q:Env->Shared->Prop}
  (hQ:∀h',h'.Ns s.heap.objs.size (fun _=>none)->(∀b o,s.heap.get? b=some o->h'.get? b=some o)->CellsOk h' (s.heap.objs.size+1) (cellsFrom (s.heap.objs.size+1) scope.names []) →
   Q (newEnv scope s.heap.objs.size globals (cellsFrom (s.heap.objs.size+1) scope.names []++closure) qual func code (some outer) builtins) { s with heap:=h' }) :
  wpAny M A (newFunctionEnv scope globals closure [] qual func code (some outer) builtins) Q E s:=by
 simp only [newFunctionEnv,Option.isSome_some,yb4];refine yaa (wpAny_alloc ?_);refine yaa (wpAny_layCells _ (fun name kind cells=>by cases hkc:kind == NameKind.cell<;>simp [hkc]) _ _ _ _ ?_);have ok:=cellsFrom_ok scope.names (s.heap.push { cls:=.type "dict",data:=.dict #[] }) (s.heap.objs.size+1) [] ⟨fun _ _ hm=>(nomatch hm),List.Pairwise.nil⟩ (by rw [ybL];exact yah _);rw [ybL] at ok;rw [show ({ s with heap:=s.heap.push { cls:=.type "dict",data:=.dict #[] } }:Shared).heap.objs.size=s.heap.objs.size+1 from ybL ..];rw [zaO];simp only [List.forIn_nil];refine yaa (yac (yac ?_));exact hQ _ ((Heap.Ns.new s.heap (.type "dict")).keeps (pushCells_keeps _ _)) (fun b o e=>pushCells_keeps _ _ b o (yae _ e)) ok
structure CompScopeG(sc scope:Scope)(N:List Str)(xs:List Str)(caps:List (Str×Nat)):Prop where
 nd:(scope.names.map (·.1)).Nodup
 kind:scope.kind=.function
 names:∀y∈scope.names,y.2=.local->scope.names.lookup y.1=some .local
 free:∀y∈scope.names,y.2=.free->sc.names.lookup y.1=some .cell\/sc.names.lookup y.1=some .free
 cap:∀p∈caps,N[p.2]?=some p.1/\(p.1,NameKind.free)∈scope.names/\sc.names.lookup p.1≠some .local
 uniq:∀p∈caps,∀z∈scope.names,z.1=p.1->z.2=.free
noncomputable def zaT(X:Cx)(xs:List Str)(caps:List (Str×Nat))(scope:Scope)(cl:List (Str×Addr))(C:Addr)(s:Shared)(H:Hp)(ex:List Addr):Cx :=
 { X with N:=xs++caps.map (·.1),s₀:=s,H₀:=H,env:=compEnvC scope cl C X.env,outer:=X.stack,ex:=ex,fn:=fun x=>decide (scope.names.lookup x=some .cell),pn:=[],xe:=fun _ _=>False }
noncomputable abbrev capσ(σ:St)(n:Nat)(caps:List (Str×Nat)):St:=List.replicate n none++caps.map fun p=>(σ[p.2]?).join
noncomputable def zhA(wi:TI)(g:TG)(tt:TT)(te:TE)(n:Nat)(caps:List (Str×Nat)):TE:=fun σ H Q=>wi σ H fun J H1=>∃W:Nat->Nat->List V->St->Hp->Prop,(∃m,W 0 m [] (capσ σ n caps) H1)/\∀i m ys σ' H,W i m ys σ' H →
 ys.length<=sizeLine/\((J.stop i H/\∀p,H p=none->Q (.ref p) (upd H p (.lst ys))) ∨
 (J.go i H/\∀x H',J.yld i H x H'->g x σ' H' fun σ2 H2=>tt σ2 H2 fun ok H3=>if ok=true then te σ2 H3 fun y H4=>∃m',m'<m/\W (i+1) m' (ys++[y]) σ2 H4 else ∃m',m'<m/\W (i+1) m' ys σ2 H3))
section
variable{X:Cx}{elt iter tg:Expr}{xs:List Str}{pos:Pos}{ifs:List Expr}{scope:Scope}{caps:List (Str×Nat)}{wi:TI}{g:TG}{tt:TT}{te:TE}
structure OwnC(X:Cx)(scope:Scope)(lo:Nat)(h:Heap)(cl:List (Str×Addr)):Prop where
 sort:∀y c,cl.lookup y=some c->X.env.cells.lookup y=some c\/(h.IsCell c none/\lo<=c)
 inj:∀y z c,cl.lookup y=some c->cl.lookup z=some c->y=z
 has:∀y,((y,NameKind.free)∈scope.names\/(y,NameKind.cell)∈scope.names)->∃c,cl.lookup y=some c
 own:∀y c,scope.names.lookup y=some .cell->cl.lookup y=some c->lo<=c
 free:∀y,(y,NameKind.free)∈scope.names->∃c,cl.lookup y=some c/\X.env.cells.lookup y=some c
def zga{scope:Scope}{env:Env}{y:Str}(h:(relabel scope env).names.lookup y=some .cell\/(relabel scope env).names.lookup y=some .free):(y,NameKind.free)∈scope.names\/(y,NameKind.cell)∈scope.names:=by
 have go:∀k,(relabel scope env).names.lookup y=some k->(k=.cell\/k=.free)->(y,NameKind.free)∈scope.names\/(y,NameKind.cell)∈scope.names:=fun k e hk=>by
  have hm:=yaK e;obtain ⟨⟨n,k0⟩,hp,e2⟩:=yao.mp hm
  by_cases hq:(k0 == .free&&env.scope.kind == .function&&env.kindOf n == some .cell)=true
  ·have e3:(n,NameKind.cell)=(y,k):=by rw [<-e2];show _=if _ then _ else _;rw [if_pos hq]
   cases e3
   have:k0=.free:=by simp only [yab] at hq;exact eq_of_beq hq.1.1
   subst this;exact .inl hp
  ·have e3:(n,k0)=(y,k):=by rw [<-e2];show _=if _ then _ else _;rw [if_neg hq]
   cases e3
   rcases hk with rfl | rfl
   ·exact .inr hp
   ·exact .inl hp
 rcases h with h | h
 ·exact go _ h (.inl rfl)
 ·exact go _ h (.inr rfl)
theorem zgk:∀{l:List (Str×NameKind)},(l.map (·.1)).Nodup->∀{x:Str} {a b:NameKind},(x,a)∈l->(x,b)∈l->a=b
 | [],_,_,_,_,h,_=>by cases h
 | p::l,nd,x,a,b,h,h'=>by
  rw [yau,ybp] at nd
  rcases yat.mp h with h | h<;>rcases yat.mp h' with h' | h'
  ·rw [<-h'] at h;exact (Prod.mk.inj h).2
  ·exact absurd (yao.mpr ⟨_,h',by rw [<-h]⟩) nd.1
  ·exact absurd (yao.mpr ⟨_,h,by rw [<-h']⟩) nd.1
  ·exact zgk nd.2 h h'
def zjS{X:Cx}{scope:Scope}{lo n:Nat}{h:Heap}{cl:List (Str×Addr)}(nd:(scope.names.map (·.1)).Nodup)(hn:lo<=n)(hinj:∀x y c,X.env.cells.lookup x=some c->X.env.cells.lookup y=some c->x=y)
  (hcl:∀y c,cl.lookup y=some c->X.env.cells.lookup y=some c) (hlo:∀y c,X.env.cells.lookup y=some c->c<lo) (hhas:∀y,(y,NameKind.free)∈scope.names->∃c,cl.lookup y=some c) (ok:CellsOk h n (cellsFrom n scope.names [])) :
  OwnC X scope lo h (cellsFrom n scope.names []++cl):=by
 have sort:∀y c,(cellsFrom n scope.names []++cl).lookup y=some c->((cellsFrom n scope.names []).lookup y=some c)\/((cellsFrom n scope.names []).lookup y=none/\cl.lookup y=some c):=fun y c e=>by
  rw [zby] at e
  cases hq:(cellsFrom n scope.names []).lookup y with
  | some c'=>rw [hq] at e;exact .inl e
  | none=>rw [hq] at e;exact .inr ⟨rfl,e⟩
 refine ⟨fun y c e=>?_,fun y z c e e'=>?_,fun y hy=>?_,fun y c hy e=>?_,fun y hy=>?_⟩
 ·rcases sort y c e with z | ⟨_,z⟩
  ·have:=ok.empty y c (yaK z);exact .inr ⟨this.1,yaq hn this.2⟩
  ·exact .inl (hcl y c z)
 ·rcases sort y c e with a | ⟨_,a⟩<;>rcases sort z c e' with b | ⟨_,b⟩
  ·exact name_of_addr ok.apart (yaK a) (yaK b)
  ·have h1:=(ok.empty y c (yaK a)).2;have h2:=hlo z c (hcl z c b);exact absurd (yal h2 (yaq hn h1)) (ya4 _)
  ·have h1:=(ok.empty z c (yaK b)).2;have h2:=hlo y c (hcl y c a);exact absurd (yal h2 (yaq hn h1)) (ya4 _)
  ·exact hinj y z c (hcl y c a) (hcl z c b)
 ·rw [zby]
  cases hq:(cellsFrom n scope.names []).lookup y with
  | some c=>exact ⟨c,rfl⟩
  | none =>
   rcases hy with hy | hy
   ·exact hhas y hy
   ·obtain ⟨c,e⟩:=zbv scope.names n hy;rw [hq] at e;cases e
 ·obtain ⟨c',e'⟩:=zbv scope.names n (yaK hy);rw [zby,e'] at e;have:c'=c:=Option.some.inj e;subst this;exact yaq hn (ok.empty y c' (yaK e')).2
 ·obtain ⟨c,e⟩:=hhas y hy;refine ⟨c,?_,hcl y c e⟩;rw [zby]
  cases hq:(cellsFrom n scope.names []).lookup y with
  | some c' =>
   have:=zb7 scope.names n (yaK hq);cases zgk nd hy this
  | none=>exact e
def zkL{pins:Z3}{σ:St}{H:Hp}{s s':Shared}{cl:List (Str×Addr)}{C:Addr}{fp:List Addr}(S:CompScopeG X.env.scope scope X.N xs caps)(hu:∀p∈caps,∀z∈scope.names,z.1=p.1->z.2=.free)
  (I:Inv X pins σ H s) (hcl:OwnC X scope s.heap.objs.size s'.heap cl)
  (hf:∀b∈fp,znE X pins H b) (hlt:∀b∈fp,b<s.heap.objs.size) (hC:s.heap.objs.size<=C) (ho:s'.os=s.os) (hg:s'.gens=s.gens) (hk:∀b o,s.heap.get? b=some o->s'.heap.get? b=some o) (hn:s'.heap.Ns C (fun _=>none)) :
  Inv (zaT X xs caps scope cl C s H fp) [] (capσ σ xs.length caps) H s':=by
 have cellK:∀y c,cl.lookup y=some c->∃v,s'.heap.IsCell c v:=fun y c e=>by
  rcases hcl.sort y c e with z | z
  ·obtain ⟨v,o,q,d⟩:=I.cell y c z;exact ⟨v,o,hk _ _ q,d⟩
  ·exact ⟨none,z.1⟩
 refine ⟨⟨I.ok.mod,S.kind,I.ok.glob,I.ok.blt,hC,hcl.inj,fun y hy=>hcl.has y (zga hy),fun y c z e=>hcl.own y c (yaj z) e,I.ok.hd,I.ok.frames,.inl rfl,fun b hb=>⟨yar (yal (hlt b hb) hC),fun y c e=>(hcl.sort y c e).elim (fun z=>(hf b hb).2.2.2.2.1 y c z) fun z=>ybj (yal (hlt b hb) z.2)⟩,
  I.bs,yaq I.ok.bsz I.sz,fun b o e hb=>?_,fun b hb hm=>?_,I.stack,I.stkFree⟩,ho,by rw [hg];exact I.bare,Un.kept hk,⟨_,hn,fun i y v h1 h2 h3=>?_⟩,fun y c e=>cellK y c e,I.hok.fresh hC,fun y c e=>(hcl.sort y c e).elim (I.freeC y c) fun z=>I.hok.fresh z.2,fun p hp=>absurd (show p∈([]:Z3) from hp) (by simp),I.hok.kept hk,?_⟩
 ·rcases (hf b hb).2.2.2.1 with z | z
  ·exact I.ok.noex b o e z
  ·exact absurd (yal (yan e) (yaq I.ok.bsz z)) (ya4 _)
 ·rcases yat.mp (I.stkSub b hm) with z | z
  ·exact (hf b hb).2.1 z
  ·exact (hf b hb).2.2.1 z
 ·have hi:¬ i<xs.length:=fun hi=>by
   have h2':(capσ σ xs.length caps)[i]?=some (some v):=h2;rw [yaP (by rw [yaV];exact hi),ybQ] at h2'
   split at h2'<;>cases h2'
  ·have h1':(caps.map (·.1))[i-xs.length]?=some y:=by
    have h1':(xs++caps.map (·.1))[i]?=some y:=h1;rwa [yaz (by omega)] at h1'
   rw [yas] at h1'
   have h2':(caps.map fun p=>(σ[p.2]?).join)[i-xs.length]?=some (some v):=by
    have h2':(capσ σ xs.length caps)[i]?=some (some v):=h2;rw [yaz (by rw [yaV];omega),yaV] at h2';exact h2'
   rw [yas] at h2'
   cases hp:caps[i-xs.length]? with
   | none=>rw [hp] at h1';cases h1'
   | some p =>
    rw [hp] at h1' h2';have ey:p.1=y:=Option.some.inj h1';have ev:(σ[p.2]?).join=some v:=Option.some.inj h2';subst ey;have hmem:p∈caps:=ya3 hp;obtain ⟨c1,c2,c3⟩:=S.cap p hmem
    have eσ:σ[p.2]?=some (some v):=by
     cases q:σ[p.2]? with
     | none=>rw [q] at ev;cases ev
     | some w=>rw [q] at ev;have:w=some v:=ev;rw [this]
    have hfr:=S.free _ c2 rfl;have hv:Vis X.env.scope p.1:=hfr.elim (fun z=>.inr (.inl z)) (fun z=>.inr (.inr z));obtain ⟨m,_,hl⟩:=I.loc;obtain ⟨u,r,l⟩:=hl p.2 p.1 v c1 eσ hv;refine ⟨u,r,.inr ⟨zdK (scope:=scope) (env:=X.env) c2 (hu p hmem),?_⟩⟩;obtain ⟨c,ec,ec2⟩:=hcl.free p.1 c2;refine ⟨c,ec,?_⟩
    rcases l with ⟨z,_⟩ | ⟨_,c',ec',hcell⟩
    ·exact absurd z c3
    ·have:c'=c:=by rw [ec2] at ec';exact (Option.some.inj ec').symm
     subst this;obtain ⟨o,q,d⟩:=hcell;exact ⟨o,hk _ _ q,d⟩
 ·simp [zaT,capσ]
def zgA{use:Option (Value->Sem Unit)}{Qf:Z5}{R:VK}{pins:Z3}{s:Shared}{σ:St}{H:Hp}(hc:X.calm=true)(S:CompScopeG X.env.scope scope X.N xs caps)(hi:PI X tg iter wi)(hg:∀cl C s H fp,PG (zaT X xs caps scope cl C s H fp) tg g)
  (ht:∀cl C s H fp,PIf (zaT X xs caps scope cl C s H fp) ifs tt) (he:∀cl C s H fp,PE (zaT X xs caps scope cl C s H fp) elt te)
  (hs:∀v,foldedSetIterable iter X.env v=pure v) (I:Inv X pins σ H s) (h:zhA wi g tt te xs.length caps σ H R)
  (fin:∀(D C:Addr) (s4:Shared) (m4:Z6) (H6:Hp) (r:Flow),s4.heap.Ns C m4->(∀{σ':St} {H7:Hp} {s5:Shared} {h':Heap},Inv X pins σ' H7 s5->Heap.SameBut C s5.heap h'->H7 C=none->Inv X pins σ' H7 { s5 with heap:=h' })->H6 C=none->C≠X.env.locals->(∀y c,X.env.cells.lookup y=some c->C≠c)->Inv X pins σ H6 s4->R (.ref D) H6->compPost (model X.prog X.w) X.A X.xe use Qf (.ref D) C (.ok r) s4) :
  wpAny (model X.prog X.w) X.A (comprehension (.ListComp elt [⟨tg,iter,ifs,0⟩] scope pos) scope X.env (firstIterPos [⟨tg,iter,ifs,0⟩] pos) (newList []) false (eval iter X.env) use) Qf X.xe s:=by
 obtain ⟨cl,hclos,hcl,hhas⟩:=ziQ (scope:=scope) (env:=X.env) fun y hy hf=>I.ok.has y.1 (S.free y hy hf)
 refine wpAny_comprehension_free (use:=use) rfl hs hclos S.kind S.names (thn (hi pins s σ H _ I h) fun v s1 h1=>thn h1 fun itv s2 h2=>?_);obtain ⟨it,fp,tn,J,H2,rfl,I2,T,st2,f2,W,⟨m0,w0⟩,turn⟩:=h2;refine yaR (zbN (fun h₁ hns₁ hsb₁ hok₁=>?_));dsimp only at hns₁ hsb₁ hok₁ ⊢;generalize hHp:s2.heap.push { cls:=.type "list",dict:=none,data:=.seq ([]:List Value).toArray }=Hq at hns₁ hsb₁ hok₁ ⊢
 have hCe:Hq.objs.size=s2.heap.objs.size+1:=by rw [<-hHp,ybL]
 have hDC:s2.heap.objs.size≠Hq.objs.size:=by rw [hCe];exact yar (ybU _)
 have hC:s2.heap.objs.size<=Hq.objs.size:=by rw [hCe];exact ybu _
 have old:∀b o,s2.heap.get? b=some o->h₁.get? b=some o:=fun b o e=>hsb₁ b o (hHp ▸ yae _ e)
 have hacc:h₁.get? s2.heap.objs.size=some (lob [] 0):=hsb₁ _ _ (hHp ▸ yak _ rfl)
 have cellX:∀y c,X.env.cells.lookup y=some c->c<s2.heap.objs.size:=fun y c e=>by obtain ⟨v,q⟩:=I2.cell y c e;exact q.lt
 have oc:=zjS (X:=X) (lo:=s2.heap.objs.size+1) S.nd (by rw [hCe];exact ybu _) I.ok.inj hcl (fun y c e=>ya0 (cellX y c e)) hhas hok₁;generalize hcl2:cellsFrom (Hq.objs.size+1) scope.names []++cl=cl2 at oc ⊢;have oc':OwnC X scope s2.heap.objs.size h₁ cl2:=⟨fun y c e=>(oc.sort y c e).imp id fun z=>⟨z.1,ydh z.2⟩,oc.inj,oc.has,fun y c a e=>ydh (oc.own y c a e),oc.free⟩
 have hlt:∀b∈fp,b<s2.heap.objs.size:=fun b hb=>by obtain ⟨o,e,_⟩:=T.obj 0 _ st2 b hb;exact yan e
 generalize hY:zaT X xs caps scope cl2 Hq.objs.size s2 H2 fp=Y;have PEY:PE Y elt te:=hY ▸ he cl2 _ s2 H2 fp;have PIY:PIf Y ifs tt:=hY ▸ ht cl2 _ s2 H2 fp;have PGY:PG Y tg g:=hY ▸ hg cl2 _ s2 H2 fp
 have I3:Inv Y [] (capσ σ xs.length caps) H2 { s2 with heap:=h₁ }:=by
  rw [<-hY];exact zkL S S.uniq I2 oc' f2 hlt hC rfl rfl old hns₁
 have eYenv:Y.env=compEnvC scope cl2 Hq.objs.size X.env:=by rw [<-hY];rfl
 have eYloc:Y.env.locals=Hq.objs.size:=by rw [eYenv];rfl
 have eYfs:Y.fs=frs X.stack:=by rw [<-hY];rfl
 have eYprog:Y.prog=X.prog:=by rw [<-hY];rfl
 have eYw:Y.w=X.w:=by rw [<-hY];rfl
 have eYK:Y.K=X.K:=by rw [<-hY];rfl
 have eYA:Y.A=X.A:=by rw [<-hY];rfl
 have eYc:Y.calm=true:=by rw [<-hY];exact hc
 have eYex:Y.ex=fp:=by rw [<-hY];rfl
 have eYs:Y.s₀=s2:=by rw [<-hY];rfl
 have eYH:Y.H₀=H2:=by rw [<-hY];rfl
 have eYpn:Y.pn=[]:=by rw [<-hY];rfl
 have eYcell:∀y c,Y.env.cells.lookup y=some c->X.env.cells.lookup y=some c\/s2.heap.objs.size+1<=c:=fun y c e=>(oc.sort y c (by rwa [eYenv] at e)).imp id (·.2)
 have eYxe:∀e s',¬ Y.xe e s':=fun e s' z=>by rwa [<-hY] at z
 have stkX:∀b∈frs X.stack,b<s2.heap.objs.size:=fun b hb=>by
  rcases yat.mp (I2.stkSub b hb) with z | z
  ·rw [z];exact I2.lt
  ·refine Nat.not_le.mp fun hle=>I2.nofs hle z
 have pinX:∀p∈X.pn++pins,p.1<s2.heap.objs.size:=fun p hp=>yan (I2.pin p hp).1
 have fpY:∀{H':Hp} {its:List Value} {k:Nat},(∀b∈fp,H' b=none)->∀b∈fp,znE Y [(s2.heap.objs.size,lob its k)] H' b:=fun {H' its k} hn b hb=>by
  refine ⟨hn b hb,by rw [eYloc];exact yar (yal (hlt b hb) hC),?_,.inl (by rw [eYex];exact hb),fun y c e=>(eYcell y c e).elim (fun z=>(f2 b hb).2.2.2.2.1 y c z) fun z=>ybj (yal (hlt b hb) (ydh z)),fun p hp=>?_⟩
  ·rw [eYfs];intro hm
   rcases yat.mp (I2.stkSub b hm) with z | z
   ·exact (f2 b hb).2.1 z
   ·exact (f2 b hb).2.2.1 z
  ·rw [eYpn] at hp
   have e:p=(s2.heap.objs.size,lob its k):=by simpa using hp
   rw [e];exact ybj (hlt b hb)
 have pinD:∀{H':Hp} {σ':St} {s':Shared} {its:List Value} {k:Nat},Inv Y [] σ' H' s'->s'.heap.get? s2.heap.objs.size=some (lob its k)->H' s2.heap.objs.size=none->Inv Y [(s2.heap.objs.size,lob its k)] σ' H' s':=fun {H' σ' s' its k} I' e n =>
  I'.pins_of fun p hp=>by
   have ep:p=(s2.heap.objs.size,lob its k):=by simpa using hp
   subst ep;refine ⟨e,n,by rw [eYloc];exact hDC,?_,fun v z=>?_⟩
   ·rw [eYfs];exact fun hm=>ya4 _ (stkX _ hm)
   ·have z':Data.seq its.toArray k=Data.cell v:=z;cases z'
 have loop:codeAny (model X.prog X.w) X.A (.compLoop (.ListComp elt [⟨tg,iter,ifs,0⟩] scope pos) 0 (.ref it) (.ref s2.heap.objs.size) (compEnvC scope cl2 Hq.objs.size X.env))
   (compPost (model X.prog X.w) X.A X.xe use Qf (.ref s2.heap.objs.size) Hq.objs.size) { s2 with heap:=h₁ }:=by
  refine zl0 (fun n s'=>∃i σx H' ys its k,Inv Y [(s2.heap.objs.size,lob its k)] σx H' s'/\tn i s'.heap/\(∀b∈fp,H' b=none)/\Vals ys its/\W i n ys σx H') ?_ m0
   ⟨0,capσ σ xs.length caps,H2,[],[],0,pinD I3 hacc (I2.hok.fresh (yah _)),T.keep _ _ _ st2 fun b hb o e=>old b o e,fun b hb=>(f2 b hb).1,.nil,w0⟩
  rintro n s3 ⟨i,σx,H3,ys,its,k,J3,st3,fr3,rv,w3⟩;obtain ⟨hz,hcase⟩:=turn i n ys σx H3 w3
  rcases hcase with ⟨stop,q⟩ | ⟨go,step⟩
  ·have hd:=T.done Y eYprog eYw eYK eYc i _ s3 _ H3 (notedBy (model X.prog X.w) X.A (compEnvC scope cl2 Hq.objs.size X.env) fun e s'=>compPost (model X.prog X.w) X.A X.xe use Qf (.ref s2.heap.objs.size) Hq.objs.size (.error e) s') J3 (fpY fr3) st3 stop;rw [eYA] at hd;refine thn hd fun r s4 ⟨hr,J4⟩=>?_
   subst hr;obtain ⟨m4,hn4,_⟩:=J4.loc
   have hn4':s4.heap.Ns Hq.objs.size m4:=by rw [<-eYloc];exact hn4
   have hnC:H3 Hq.objs.size=none:=by rw [<-eYloc];exact J4.free
   have hk5:HOk X.prog X.w H3 s4.heap:=by rw [<-eYprog,<-eYw];exact J4.hok
   have u5:Un (frs X.stack) fp H2 H3 s2.heap s4.heap:=by
    have ub:=J4.base;rwa [eYfs,eYex,eYH,eYs] at ub
   have J5:Inv X pins σ H3 s4:=I2.call' (s':=s4) (ch:=fp) (by have:=J4.os;rwa [eYs] at this) u5 hk5 J4.bare fun b hb=>⟨(f2 b hb).2.2.2.1,(f2 b hb).2.1,(f2 b hb).2.2.2.2.1,(f2 b hb).2.2.2.2.2⟩
   have hp4:=J4.pin (s2.heap.objs.size,lob its k) (yaF _ yaD);have hD5:s4.heap.get? s2.heap.objs.size=some (lob its k):=hp4.1;have J6:Inv X pins σ (upd H3 s2.heap.objs.size (.lst ys)) s4:=J5.track hp4.2.1 I2.sz (ybj I2.lt) (fun y c e=>yar (cellX y c e)) (fun p hp=>yar (pinX p hp)) (show za3 X.prog X.w _ s4.heap _ (.lst ys) from ⟨hz,its,k,rv,hD5⟩);have hCloc:Hq.objs.size≠X.env.locals:=ybj (yal I2.lt hC);exact fin _ Hq.objs.size s4 m4 _ _ hn4' (fun {σ'} {H7} {s5} {h'} J sb' hn=>J.turned (t':=s5.toks) (it:=Hq.objs.size) (fun b o hb e=>(sb'.2 b hb).trans e) hn hCloc (.inr (yaq I2.sz hC)) (fun y c e=>yar (yal (cellX y c e) hC)) (fun p hp=>yar (yal (pinX p hp) hC))) (by rw [zag (Ne.symm hDC)];exact hnC) hCloc (fun y c e=>ybj (yal (cellX y c e) hC)) J6 (q _ hp4.2.1)
  ·have hd:=T.item Y eYprog eYw eYK eYc i _ s3 _ H3 (notedBy (model X.prog X.w) X.A (compEnvC scope cl2 Hq.objs.size X.env) fun e s'=>compPost (model X.prog X.w) X.A X.xe use Qf (.ref s2.heap.objs.size) Hq.objs.size (.error e) s') J3 (fpY fr3) st3 go;rw [eYA] at hd;refine thn hd fun r s4 ⟨u,hr,h4⟩=>?_
   subst hr;refine thn h4 fun _ s5 ⟨v4,H4,J4,r4,y4,st5,fr4⟩=>?_
   have J4':=J4.pinned (fp:=fp) (fpY fr4) (T.obj _ _ st5);have ha:=PGY _ s5 σx H4 v4 u _ J4' r4 (step v4 H4 y4);rw [eYprog,eYw,eYA,eYenv] at ha;refine ybx ha (fun _ s5' ⟨σ5,H5,J5',q5⟩=>?_) fun e s' z=>(eYxe _ _ z).elim
   have ht5:=PIY _ s5' σ5 H5 _ J5' q5;rw [eYprog,eYw,eYA,eYenv] at ht5;refine ybx ht5 (fun ok s6 ⟨H6,J6,q6⟩=>?_) fun e s' z=>(eYxe _ _ z).elim
   have back:∀{H7:Hp} {s7:Shared},Inv Y ([(s2.heap.objs.size,lob its k)]++zgf fp s5.heap) σ5 H7 s7->tn (i+1) s7.heap/\∀b∈fp,H7 b=none:=fun {H7 s7} J7 =>
    ⟨T.keep _ _ _ st5 fun b hb o e=>(J7.pin (b,o) (yaF _ (yaF _ (zcz hb e)))).1,fun b hb=>by
     obtain ⟨o,e,d⟩:=T.obj _ _ st5 b hb
     exact (J7.pin (b,o) (yaF _ (yaF _ (zcz hb e)))).2.1⟩
   cases ok with
   | false =>
    rw [if_neg yaU] at q6;rw [if_neg yaU];obtain ⟨m',hm',w6⟩:=q6;exact ⟨m',hm',i+1,σ5,H6,ys,its,k,J6.unpinned,(back J6).1,(back J6).2,rv,w6⟩
   | true =>
    rw [if_pos rfl] at q6;rw [if_pos rfl];have he6:=PEY _ s6 _ H6 _ J6 q6;rw [eYprog,eYw,eYA,eYenv] at he6;refine ybx he6 (fun u7 s7 ⟨v7,H7,J7,r7,m',hm',w7⟩=>?_) fun e s' z=>(eYxe _ _ z).elim
    obtain ⟨st7,fr7⟩:=back J7;have hp7:=(J7.unpinned).pin (s2.heap.objs.size,lob its k) (yaF _ yaD);have hl:=rv.length;refine append_at (hsz:=by show its.toArray.size<=sizeLine;rw [yag];omega) hp7.1 fun h8 sb8 hD8=>?_
    have J7':Inv Y [] σ5 H7 s7:=J7.unpinned.pins_of fun p hp=>absurd hp (by simp)
    have J8:Inv Y [] σ5 H7 { s7 with heap:=h8 }:=J7'.turned (t':=s7.toks) (it:=s2.heap.objs.size) (fun b o hb e=>(sb8.2 b hb).trans e) hp7.2.1 (by rw [eYloc];exact hDC) (.inr (by rw [eYs];exact yah _)) (fun y c e=>(eYcell y c e).elim (fun z=>yar (cellX y c z)) fun z=>ybj z) (fun p hp=>by rw [eYpn] at hp;simp at hp)
    have hD8':h8.get? s2.heap.objs.size=some (lob (its++[u7]) (k+1)):=by rw [hD8];simp [lob]
    exact ⟨m',hm',i+1,σ5,H7,ys++[v7],its++[u7],k+1,pinD J8 hD8' hp7.2.1,T.keep _ _ _ st7 fun b hb o e=>(sb8.2 b (yar (hlt b hb))).trans e,fr7,rv.append (.cons r7 .nil),w7⟩
 exact codeAny_compStart_list loop (T.self X.A 0 _ _ _ (T.keep _ _ _ st2 fun b hb o e=>old b o e) loop)
def zlF(hc:X.calm=true)(S:CompScopeG X.env.scope scope X.N xs caps)(hi:PI X tg iter wi)(hg:∀cl C s H fp,PG (zaT X xs caps scope cl C s H fp) tg g)
  (ht:∀cl C s H fp,PIf (zaT X xs caps scope cl C s H fp) ifs tt) (he:∀cl C s H fp,PE (zaT X xs caps scope cl C s H fp) elt te)
  (hs:∀v,foldedSetIterable iter X.env v=pure v:=by intro _;rfl):PE X (.ListComp elt [⟨tg,iter,ifs,0⟩] scope pos) (zhA wi g tt te xs.length caps):=by
 intro pins s σ H Q I h;rw [eval_ListComp];exact zgA (use:=none) hc S hi hg ht he hs I h fun D C s4 m4 H6 r hn tr hC _ _ J6 q=>⟨m4,hn,fun h5 sb=>⟨.ref D,H6,tr J6 sb hC,rfl,q⟩⟩
def zlv{k0:Nat}{y0:Str}{py spos:Pos}(hc:X.calm=true)(S:CompScopeG X.env.scope scope X.N xs caps)(hN0:X.N.Nodup)(hi0:X.N[k0]?=some y0)(hx0:Loc X.env.scope y0)(hi:PI X tg iter wi)(hg:∀cl C s H fp,PG (zaT X xs caps scope cl C s H fp) tg g)
  (ht:∀cl C s H fp,PIf (zaT X xs caps scope cl C s H fp) ifs tt) (he:∀cl C s H fp,PE (zaT X xs caps scope cl C s H fp) elt te)
  (hsw:swapsWith (.ListComp elt [⟨tg,iter,ifs,0⟩] scope pos) (some (.Name y0 py)) spos.line X.env=pure true)
  (hf0:X.fn y0=true\/X.env.scope.names.lookup y0=some .local)
  (hs:∀v,foldedSetIterable iter X.env v=pure v):PS X (.Assign [.Name y0 py] (.ListComp elt [⟨tg,iter,ifs,0⟩] scope pos) spos) (zpB (zhA wi g tt te xs.length caps) (zkA k0)):=by
 intro pins s σ H DD I h;rw [exec_Assign_Name_used _ _ _ _ hsw];refine yaa (ydl (yaa ?_));show wpAny _ X.A (do let _ ← comprehension (.ListComp elt [⟨tg,iter,ifs,0⟩] scope pos) scope X.env _ (newList []) false (eval iter X.env) (some (assign (.Name y0 py) X.env))) _ _ s;refine yaa (ybx (zgA (use:=some (assign (.Name y0 py) X.env)) (Qf:=fun _ s'=>SP X pins DD .next s') hc S hi hg ht he hs I h fun D C s4 m4 H6 r hn tr hC hl hce J6 q=>?_) (fun _ s' hq=>yac (yac hq)) fun _ _ e=>e);show wpAny _ X.A (assign (.Name y0 py) X.env (.ref D)) _ X.xe s4;refine wpAny_assign_Name (zf1 (i:=k0) J6 hN0 hi0 hx0 (v:=.ref D) rfl (fun s5 J7 ⟨a,sb,ha⟩=>?_) hf0);have haC:C≠a:=ha.elim (fun z=>by rw [z];exact hl) fun z=>hce _ _ z
 exact ⟨m4,hn.sameBut sb haC,fun h' sb'=>⟨_,_,tr J7 sb' hC,q⟩⟩
end
end L2
namespace ST
open PySem PySem.SetTable
noncomputable def stp(mask:Nat)(p:Probe):Probe :=
 if p.more > 0 then { p with j:=p.j+1,more:=p.more-1 } else
 { p with j:=(leap mask p.i p.perturb).1,more:=runEnd mask (leap mask p.i p.perturb).1-(leap mask p.i p.perturb).1,i:=(leap mask p.i p.perturb).1,perturb:=(leap mask p.i p.perturb).2 }
noncomputable def itr(mask:Nat):Nat->Probe->Probe
 | 0,p=>p
 | n+1,p=>itr mask n (stp mask p)
noncomputable def zuM(mask i pert:Nat):Probe:={ j:=i,more:=runEnd mask i-i,i:=i,perturb:=pert,dummy:=none }
noncomputable def st(mask:Nat)(h:Int)(n:Nat):Probe:=itr mask n (zuM mask (bits h % (mask+1)) (bits h))
noncomputable def pos(mask:Nat)(h:Int)(n:Nat):Nat:=(st mask h n).j
end ST
namespace ST
open PySem PySem.SetTable
noncomputable def Cut(ps:List Nat)(j c:Nat):Prop:=c<=ps.length/\(∀k x,k<c->ps[k]?=some x->x<j)/\∀k x,c<=k->ps[k]?=some x->j<=x
theorem zh6:∀(ps:List Nat) (j:Nat),ps.Pairwise (· < ·)->∃c,Cut ps j c
 | [],j,_=>⟨0,yah _,fun k x h _=>by omega,fun k x _ e=>by simp at e⟩
 | a::ps,j,h=>by
  obtain ⟨ha,hp⟩:=List.pairwise_cons.mp h
  by_cases hj:a<j
  ·obtain ⟨c,h1,h2,h3⟩:=zh6 ps j hp;refine ⟨c+1,Nat.succ_le_succ h1,fun k x hk e=>?_,fun k x hk e=>?_⟩
   ·cases k with
    | zero=>simp at e;omega
    | succ k=>exact h2 k x (by omega) (by simpa using e)
   ·cases k with
    | zero=>omega
    | succ k=>exact h3 k x (by omega) (by simpa using e)
  ·refine ⟨0,yaL _,fun k x hk _=>by omega,fun k x _ e=>?_⟩
   cases k with
   | zero=>simp at e;omega
   | succ k =>
    have:=ha x (ya3 (by simpa using e));omega
theorem zkz{xs:Array Nat}{j c:Nat}(hc:Cut xs.toList j c):∀(fuel lo hi:Nat),lo<=c->c<=hi->hi<=xs.size->hi-lo<=fuel->below.go xs j fuel lo hi=c
 | 0,lo,hi,h1,h2,h3,h4=>by unfold below.go;omega
 | fuel+1,lo,hi,h1,h2,h3,h4=>by
  unfold below.go
  by_cases hlt:lo<hi
  ·rw [if_pos hlt]
   have hm:(lo+hi) / 2<xs.size:=by omega
   have e:xs.toList[(lo+hi) / 2]?=some xs[(lo+hi) / 2]:=by rw [ybe];exact ya1 hm
   have eD:xs.getD ((lo+hi) / 2) j=xs[(lo+hi) / 2]:=by simp [Array.getD,hm]
   show (if xs.getD ((lo+hi) / 2) j<j then below.go xs j fuel ((lo+hi) / 2+1) hi else below.go xs j fuel lo ((lo+hi) / 2))=c;rw [eD]
   by_cases hx:xs[(lo+hi) / 2]<j
   ·rw [if_pos hx];refine zkz hc fuel _ _ ?_ h2 h3 (by omega);refine Classical.byContradiction fun z=>?_
    have:=hc.2.2 ((lo+hi) / 2) _ (by omega) e;omega
   ·rw [if_neg hx];refine zkz hc fuel _ _ h1 ?_ (by omega) (by omega);refine Classical.byContradiction fun z=>?_
    have:=hc.2.1 ((lo+hi) / 2) _ (by omega) e;omega
  ·rw [if_neg hlt];omega
def zeC{xs:Array Nat}{j c:Nat}(hc:Cut xs.toList j c):below xs j=c:=by
 unfold below;exact zkz hc _ _ _ (yaL _) (by have:=hc.1;simpa using this) (yah _) (by omega)
def zjl{t:SetTable}(hs:t.place.toList.Pairwise (· < ·))(hd:t.dummies=#[]){j:Nat}(h:j ∉ t.place.toList):t.slot j=.empty:=by
 obtain ⟨c,hc⟩:=zh6 t.place.toList j hs;unfold slot;rw [zeC hc]
 have e:(t.place[c]? == some j)=false:=by
  rw [<-ybe]
  cases q:t.place.toList[c]? with
  | none=>rfl
  | some x =>
   have:x≠j:=fun z=>h (z ▸ ya3 q)
   simpa using this
 show (if (t.place[c]? == some j)=true then Slot.live c else if has t.dummies j=true then .dummy else .empty)=.empty;rw [e,if_neg (by simp),hd]
 have:has #[] j=false:=by unfold has below;rfl
 rw [this,if_neg (by simp)]
def zoO{α:Type}(xs:List α)(c:Nat)(x y:α):y∈xs.take c++x::xs.drop c↔y=x\/y∈xs:=by
 have e:y∈xs↔y∈xs.take c++xs.drop c:=by rw [List.take_append_drop]
 rw [e];simp only [ybo,yat];constructor
 ·rintro (h | h | h)
  ·exact .inr (.inl h)
  ·exact .inl h
  ·exact .inr (.inr h)
 ·rintro (h | h | h)
  ·exact .inr (.inl h)
  ·exact .inl h
  ·exact .inr (.inr h)
def zcB{α:Type}(xs:Array α)(p:Nat)(x:α):(insertAt xs p x).toList=xs.toList.take p++x::xs.toList.drop p:=by
 simp [insertAt,List.extract_eq_take_drop,List.take_of_length_le]
def zqP{t:SetTable}(hd:t.dummies=#[])(j:Nat):t.put j=({ t with place:=insertAt t.place (below t.place j) j },below t.place j):=by
 unfold put
 have:has t.dummies j=false:=by rw [hd];unfold has below;rfl
 rw [this];simp
def zn0{ps:List Nat}{j c:Nat}(hs:ps.Pairwise (· < ·))(hc:Cut ps j c)(hj:j ∉ ps):(ps.take c++j::ps.drop c).Pairwise (· < ·):=by
 rw [List.pairwise_append,List.pairwise_cons]
 have e:(ps.take c++ps.drop c).Pairwise (· < ·):=by rw [List.take_append_drop];exact hs
 rw [List.pairwise_append] at e
 have lo:∀x∈ps.take c,x<j:=fun x hx=>by
  obtain ⟨k,hk⟩:=ybv hx;rw [yc6] at hk;split at hk
  ·exact hc.2.1 k x (by assumption) hk
  ·cases hk
 have hi:∀x∈ps.drop c,j<x:=fun x hx=>by
  obtain ⟨k,hk⟩:=ybv hx;rw [ybt] at hk;have h1:=hc.2.2 (c+k) x (by omega) hk;have h2:x≠j:=fun z=>hj (z ▸ ya3 hk)
  omega
 refine ⟨e.1,⟨hi,e.2.1⟩,fun x hx y hy=>?_⟩
 rcases yat.mp hy with rfl | hy
 ·exact lo x hx
 ·have:=lo x hx;have:=hi y hy;omega
end ST
namespace ST
open PySem PySem.SetTable
end ST
namespace ST
open PySem PySem.Spec PyProof.Rows
section
variable{prog:Program}{w:World}{A:Around}{E:Z5}{s:Shared}
end
end ST
namespace ST
open PySem PySem.Spec PyProof.Rows
section
variable{prog:Program}{w:World}{A:Around}{E:Z5}{s:Shared}
def zvU{h:Heap}{a:Addr}{o:Obj}{es es':Array (Int×Value)}{ep:Nat}{t t':SetTable}(ho:h.get? a=some o)(hx:o.ExactSet)(hd:o.data=.set es ep t) :
  ∃o',(h.update a (Obj.putSet es' t')).get? a=some o'/\o'.ExactSet/\o'.data=.set es' (ep+1) t':=by
 refine ⟨{ o with data:=.set es' (ep+1) t' },?_,hx,rfl⟩;rw [ybq _ ho (by rw [putSet_of es' t' hd];rfl),putSet_of es' t' hd]
end
end ST
namespace ST
open PySem PySem.Spec PyProof.Rows
section
variable{prog:Program}{w:World}{A:Around}{R:Result->Shared->Prop}{s:Shared}
end
end ST
namespace PySem
section
variable{prog:Program}{w:World}{A:Around}{E:Z5}{s:Shared}
end
end PySem
namespace L2
open PySem PySem.Spec PyProof.Rows
section
variable{X:Cx}{a b c:Expr}{ta tb tc:TE}{pos:Pos}
def zho:zc2 X (.builtin "isinstance") (fun xs H Q=>∃x t c k,xs=[x,.ty c]/\TyOf X.K H x t/\PySem.W.kitOne X.K t (.type c)=some k/\Q (.bl k) H):=by
 intro pins s σ H xs us Q I r h;obtain ⟨x,t,c,k,rfl,ty,e,q⟩:=h
 cases r with
 | cons r1 rr =>
  cases rr with
  | cons r2 r3 =>
   cases r3;cases (show _=Value.type c from r2);exact zkp I r1 ty e fun tk=>⟨.bl k,H,I.tok tk,rfl,q⟩
def zfj(bs:List Bool):((List.range bs.length).all fun i=>(bs[i]?).getD true)=bs.all id:=by
 rw [yb6,ybk,ybk];constructor
 ·intro h b hb;obtain ⟨i,hi,e⟩:=ycT.mp hb;have:=h i (ybK.mpr hi);rwa [yad hi,e] at this
 ·intro h i hi;have hi':=ybK.mp hi;rw [yad hi'];exact h _ (yba hi')
def zhp(hc:X.calm=true):zc2 X (.builtin "all") (fun xs H Q=>∃(p:Addr) (bs:List Bool),xs=[.ref p]/\SqL X.K H p (bs.map V.bl)/\Q (.bl (bs.all id)) H):=by
 intro pins s σ H xs us Q I r h;obtain ⟨p,bs,rfl,hq,q⟩:=h;obtain ⟨u,rfl,rx⟩:=zeG r;cases rx;obtain ⟨its,rv,pl,hz⟩:=I.list hq;have hl:=pl.isList
 have hlt:p<s.heap.objs.size:=by obtain ⟨_,e,_⟩:=hl;exact yan e
 have hn:its.length=bs.length:=by have:=rv.length;rw [yaf] at this;exact this.symm
 refine call_all_walk (ycb hl ?_);refine ⟨s.heap.objs.size,[s.heap.objs.size,p],[s.heap.objs.size],its.toArray.size,_,_,fun i=>(bs[i]?).getD true,rfl,Walks.list (A:=X.A.in1) (I.ok.hd hc) _ p (yar hlt) its.toArray,⟨⟨_,yak _ rfl,rfl,rfl⟩,hl.push _⟩,fun i v s' Q' E' hP hQ=>?_,fun h' tk hk=>?_⟩
 ·have hv:its[i]?=some v:=by simpa using hP
  have hi:i<bs.length:=by rw [<-hn];exact (yam.mp hv).1
  obtain ⟨u,hu,ru⟩:=rv.get (i:=i) (x:=.bl bs[i]) (by rw [yas,yad hi];rfl);rw [hv] at hu;cases hu;cases (show v=Value.bool bs[i] from ru);refine ybd ?_;have hQ':Q' ((bs[i]?).getD true) s':=hQ;rwa [yad hi] at hQ'
 ·rw [yag,hn,zfj];refine ⟨.bl _,H,I.kept (t':=tk) fun b o e=>?_,rfl,q⟩;exact hk b o (fun hm=>by rw [yaJ.mp hm] at e;exact ya4 _ (yan e)) (yae _ e)
def zg8:OpR X (compareOp .IsNot) (fun x y H Q=>∃i j,x=.bl i/\y=.bl j/\Q (.bl (!decide (i=j))) H):=by
 intro pins s σ H x y v u Q I rx ry h;obtain ⟨i,j,rfl,rfl,q⟩:=h;cases rx;cases ry;show wpAny _ _ (isSame (Value.bool i) (Value.bool j) >>= fun r=>pure (Value.bool (!r))) _ _ s;refine yaa (wpAny_isSame_plain (by rfl) (yac ?_));refine ⟨.bl (!decide (i=j)),H,I,?_,q⟩;show _=Value.bool _;congr 1
 cases i<;>cases j<;>rfl
def zlN:OpR X (binaryOp .Add) (fun x y H Q=>∃(a b:Addr) (ys:List V),x=.ref a/\y=.ref b/\SqT X.K H a []/\SqT X.K H b ys/\Q (.ref b) H):=by
 intro pins s σ H x y v u Q I rx ry h;obtain ⟨a,b,ys,rfl,rfl,ha,hb,q⟩:=h;cases rx;cases ry;obtain ⟨its,r1,p1,_⟩:=I.tuple ha;obtain ⟨its2,r2,p2,_⟩:=I.tuple hb;cases r1;obtain ⟨⟨cls,dd,data,sl⟩,ho,hc,n,hd⟩:=id p1;obtain ⟨⟨cls2,dd2,data2,sl2⟩,ho2,hc2,n2,hd2⟩:=id p2;simp only at hc hd hc2 hd2;subst hc hd hc2 hd2
 exact concat_meets ⟨_,ho,rfl⟩ ⟨_,ho2,rfl⟩ noFill_tuple_add seq_tuple_add ycE yct (ycq _ _)
  (tuple_addW0 a b ([]:List Value).toArray its2.toArray n n2 dd dd2 sl sl2 (by rfl)) ⟨ho,ho2,⟨.ref b,H,I,rfl,q⟩⟩
end
end L2
namespace PySem
open PySem.Spec PyProof.Rows
def zcJ:fillsNumberSlot (.type "tuple") "mul" = pure false :=
 fillsNumberSlot_seq (id:="tuple.__mul__") (r:=some (.builtin "tuple.__rmul__")) ycO.lookup (by decide +kernel) F.slot_tuple_rmul.lookup (by decide +kernel)
def zeV:seqRepeat? (.type "tuple")=pure (some (.builtin "tuple.__mul__")):=by
 have e1:=seqSlot_of (T:="tuple") (name:="__mul__") (id:="tuple.__mul__") ycO.lookup (by decide +kernel);have e2:=seqSlot_of (T:="tuple") (name:="__rmul__") (id:="tuple.__rmul__") F.slot_tuple_rmul.lookup (by decide +kernel);unfold seqRepeat?;rw [e1,e2];rfl
def zdQ(a:Int)(t:Tok)(l:Addr)(o:Obj){its:Array Value}{n:Nat}(hc:o.cls=.type "tuple")(hdd:o.data=.seq its n) :
  Meets (Builtin.«int.__rmul__» ⟨[.int a t,.ref l],[]⟩) (fun _ R s=>s.heap.get? l=some o/\R (.ok (.ret Value.notImplemented)) s) :=
 .of_wp fun prog w A R s h=>by
  obtain ⟨c,d,dt,sl⟩:=o;simp only at hc hdd;subst hc hdd;obtain ⟨hp,g,dr,tk,os⟩:=s;obtain ⟨hl,h⟩:=h
  wp_walk
  exact ⟨_,rfl,h⟩
section
variable{prog:Program}{w:World}{A:Around}{E:Z5}{s:Shared}
def zfV{a:Addr}{o:Obj}{its:Array Value}{n:Nat}{k:Int}{t:Tok}{P:Fin->Shared->Prop}(ho:s.heap.get? a=some o)(hc:o.cls=.type "tuple")(hd:o.data=.seq its n)(hne:its.isEmpty=false)(h2:2<=k)(hz:(its.size:Int)*k<=1000000)(hk:k<=1000)
  (h:P (.done (.ret (.ref s.heap.objs.size))) { s with heap:=s.heap.push { cls:=.type "tuple",data:=.seq ((List.replicate k.toNat its).foldl (·++·) #[]) } }) (hsz:((List.replicate k.toNat its).foldl (·++·) #[]).size<=sizeLine) :
  wpAny (model prog w) A (Builtin.«tuple.__mul__» ⟨[.ref a,.int k t],[]⟩) P E s:=by
 show wpAny _ _ (asIndex (.int k t) >>= _) _ _ s;refine yaa ?_;unfold asIndex;refine yaa (yac ?_);dsimp only;refine yac ?_
 have e0:(decide (k < -(2 ^ 63))||decide (k ≥ 2 ^ 63))=false:=by
  rw [Bool.or_eq_false_iff];refine ⟨yaE ?_,yaE ?_⟩
  ·omega
  ·omega
 rw [e0];simp only [yax,ybm];refine yaa (yc7 ho hd ?_)
 have e1:(its.isEmpty||k == 1)=false:=by rw [hne,Bool.false_or];simp;omega
 rw [e1];simp only [yax,ybm]
 have e2:(decide (k<=0)||its.isEmpty)=false:=by rw [hne,Bool.or_false];exact yaE (by omega)
 rw [e2];simp only [yax,ybm];rw [if_neg (by omega)]
 have e3:Builtin.Tuple.tupleTooMany (its.size*k)=false:=by
  unfold Builtin.Tuple.tupleTooMany;refine yaE ?_
  have:(1000000:Int)<=(sizeLine:Int):=by decide
  omega
 rw [e3];simp only [yax,ybm];unfold Builtin.Tuple.tupleExact;exact yaa (yaR (yac h) hsz)
def zfU{a:Addr}{o:Obj}{its:Array Value}{n:Nat}{t:Tok}{P:Fin->Shared->Prop}(ho:s.heap.get? a=some o)(hc:o.cls=.type "tuple")(hd:o.data=.seq its n)(h:P (.done (.ret (.ref a))) s) :
  wpAny (model prog w) A (Builtin.«tuple.__mul__» ⟨[.ref a,.int 1 t],[]⟩) P E s:=by
 show wpAny _ _ (asIndex (.int 1 t) >>= _) _ _ s;refine yaa ?_;unfold asIndex;refine yaa (yac ?_);dsimp only;refine yac ?_
 have e0:(decide ((1:Int) < -(2 ^ 63))||decide ((1:Int) ≥ 2 ^ 63))=false:=by decide
 rw [e0];simp only [yax,ybm];refine yaa (yc7 ho hd ?_)
 have e1:(its.isEmpty||(1:Int) == 1)=true:=by simp
 rw [e1];simp only [yb4];unfold Builtin.Tuple.tupleIsExact;refine yaa (yaa (ybH (T:="tuple") ⟨o,ho,hc⟩ (yac ?_)));simp only [ybD,yb4];exact yaa (yco (yac h))
def zoL{a:Addr}{o:Obj}{its:Array Value}{n:Nat}{k:Int}{t:Tok}{Q:Z5}(ho:s.heap.get? a=some o)(hc:o.cls=.type "tuple")(hd:o.data=.seq its n)(hne:its.isEmpty=false)(h2:2<=k)(hz:(its.size:Int)*k<=1000000)(hk:k<=1000)
  (h:Q (.ref s.heap.objs.size) { s with heap:=s.heap.push { cls:=.type "tuple",data:=.seq ((List.replicate k.toNat its).foldl (·++·) #[]) } }) (hsz:((List.replicate k.toNat its).foldl (·++·) #[]).size<=sizeLine) :
  wpAny (model prog w) A (binaryOp .Mult (.ref a) (.int k t)) Q E s:=by
 have hT:s.TypeIs (.ref a) "tuple":=⟨o,ho,hc⟩
 refine ycg (T:="tuple") (U:="int") (by decide) hT (fun s'=>ycX s' k t) zcJ F.fills_int_mul yb5 zeV F.slot_int_index.lookup
  (ycc yb5 (ycX s k t) F.entry_int_rmul (ydg _ _) (zdQ k t a o hc hd) ⟨ho,rfl,hT,?_⟩)
 exact yaS ycO hT F.entry_tuple_mul (zfV ho hc hd hne h2 hz hk ⟨_,rfl,h⟩ hsz) (F.args_tuple_mul_2 _ _)
def zlT{a:Addr}{o:Obj}{its:Array Value}{n:Nat}{t:Tok}{Q:Z5}(ho:s.heap.get? a=some o)(hc:o.cls=.type "tuple")(hd:o.data=.seq its n)(h:Q (.ref a) s):wpAny (model prog w) A (binaryOp .Mult (.ref a) (.int 1 t)) Q E s:=by
 have hT:s.TypeIs (.ref a) "tuple":=⟨o,ho,hc⟩
 refine ycg (T:="tuple") (U:="int") (by decide) hT (fun s'=>ycX s' 1 t) zcJ F.fills_int_mul yb5 zeV F.slot_int_index.lookup
  (ycc yb5 (ycX s 1 t) F.entry_int_rmul (ydg _ _) (zdQ 1 t a o hc hd) ⟨ho,rfl,hT,?_⟩)
 exact yaS ycO hT F.entry_tuple_mul (zfU ho hc hd ⟨_,rfl,h⟩) (F.args_tuple_mul_2 _ _)
end
end PySem
namespace L2
open PySem PySem.Spec PyProof.Rows
inductive D where
 | non | bl (b:Bool) | int (i:Int) | str (x:Str) | tup (l:List D) | lst (l:List D)
section
variable{X:Cx}
def zoA:OpR X (binaryOp .Mult) (fun x y H Q=>∃(p:Addr) (k:Int) (xs:List V),x=.ref p/\y=.int k/\SqT X.K H p xs/\xs≠[]/\2<=k/\k<=1000/\xs.length<=1000/\∀l,H l=none->Q (.ref l) (upd H l (.tup (List.replicate k.toNat xs).flatten))):=by
 intro pins s σ H x y v u Q I rx ry h;obtain ⟨p,k,xs,rfl,rfl,hq,hne,h2,hk,hx,q⟩:=h;cases rx;obtain ⟨t,rfl⟩:=ry;obtain ⟨its,rv,⟨o,ho,hc,n,hd⟩,_⟩:=I.tuple hq;have hl:=rv.length
 have hnew:(List.replicate k.toNat its.toArray).foldl (·++·) #[]=(List.replicate k.toNat its).flatten.toArray:=by
  have:=zeu its k.toNat [];rwa [List.nil_append] at this
 have hsz:(List.replicate k.toNat its).flatten.length<=1000000:=by
  rw [zhd];exact yaq (ybY (show k.toNat<=1000 by omega) (show its.length<=1000 by omega)) (by decide)
 have hline:(1000000:Nat)<=sizeLine:=by decide
 refine zoL ho hc hd ?_ h2 ?_ hk ?_ ?_
 ·have:its≠[]:=fun z=>hne (by cases xs with | nil=>rfl | cons a r=>rw [z] at hl;cases hl)
  simpa using this
 ·rw [yag];have:=Int.mul_le_mul (show (its.length:Int)<=1000 by omega) hk (by omega) (by omega);omega
 ·rw [hnew];refine ⟨.ref s.heap.objs.size,_,I.laid (t':=s.toks) (o:=.tup (List.replicate k.toNat xs).flatten) (fun b ob q=>yae _ q) (yah _) ?_,rfl,q _ (I.hok.fresh (yah _))⟩;refine ⟨?_,_,rv.rep k.toNat,IsTup.new _ _⟩;rw [zhd] at hsz ⊢;rw [<-hl] at hsz;omega
 ·rw [hnew,yag];omega
end
end L2
namespace HT
open PySem PySem.Spec PyProof.Rows L2
section
variable{prog:Program}{w:World}{A:Around}{E:Z5}{s:Shared}
def zdD{t sl:Addr}{items:Array Value}{vl vu:Value}{lo hi:Option Int}{Q:Z5}(ht:IsTup s.heap t items)(hs:s.heap.IsSliceOf sl vl vu .none)(pl:IsPart vl lo)(pu:IsPart vu hi)
  (h1:sIx items.size 0 lo=0) (h2:sIx items.size items.size hi=items.size) (h:Q (.ref t) s):wpAny (model prog w) A (getItem (.ref t) (.ref sl)) Q E s:=by
 obtain ⟨os,hos,hcs,hds⟩:=id hs;have hTs:s.TypeIs (.ref sl) "slice":=⟨os,hos,hcs⟩;unfold getItem
 try with_reducible refine yaW ?_
 first | refine yaa (yac ?_) | skip
 refine yaa (wpAny_sequenceKey ht.typeIs (by decide) ?_)
 refine yaa (ybg (name:=Str.ofString "__getitem__") ht.typeIs yaX
  (yaS yaX ht.typeIs entry_tuple_getitem ?_ (args_tuple_getitem _ _)))
 show wpAny _ _ (Builtin.Tuple.tupleItemsOf (.ref t) >>= _) _ _ s;refine yaa (tupleItemsOf_ ht ?_);refine yaa (ybH hTs ?_);rw [if_pos (by decide)];refine yaa (zb9 hs pl pu ?_);rw [h1,h2];show wpAny _ _ (if ((((0:Nat):Int) == 0&&(1:Int) == 1&&(items.size-0) == items.size)=true) then _ else _) _ _ s;rw [if_pos (by simp)];unfold Builtin.Tuple.tupleIsExact;refine yaa (yaa (ybH ht.typeIs (yac ?_)));simp only [ybD,yb4];refine yaa (yco ?_)
 first
  | exact yac ⟨_,rfl,yac h⟩
  | exact yaa (yac (yac ⟨_,rfl,yac h⟩))
end
end HT
namespace L2
open PySem PySem.Spec PyProof.Rows
def zir{X:Cx}:SlR X (fun x lo hi H Q=>∃(a:Addr) (xs:List V),x=.ref a/\SqT X.K H a xs/\HT.sIx xs.length 0 lo=0/\HT.sIx xs.length xs.length hi=xs.length/\Q (.ref a) H):=by
 intro pins s σ H x v vl vu lo hi sl Q I rx hs pl pu h;obtain ⟨a,xs,rfl,hx,h1,h2,q⟩:=h;cases rx;obtain ⟨its,r,ht,hz⟩:=I.tuple hx
 have hlen:its.toArray.size=xs.length:=by rw [yag];exact r.length.symm
 refine ⟨"tuple",_,yaX.lookup,ht.typeIs,?_⟩;exact HT.zdD ht hs pl pu (by rw [hlen];exact h1) (by rw [hlen];exact h2) ⟨.ref a,H,I,rfl,q⟩
end L2
namespace L2
open PySem PySem.Spec PyProof.Rows
mutual
noncomputable def D.py:D->PyData
 | .non=>.none
 | .bl b=>.bool b
 | .int i=>.int i
 | .str x=>.str x
 | .tup l=>.tuple (D.pys l)
 | .lst l=>.list (D.pys l)
noncomputable def D.pys:List D->List PyData
 | []=>[]
 | d::l=>d.py::D.pys l
end
mutual
noncomputable def D.fit:Nat->D->Bool
 | _,.non=>true
 | _,.bl _=>false
 | _,.int _=>true
 | _,.str x=>PyData.strOk x
 | 0,.tup _=>false
 | n+1,.tup l=>D.fits n l
 | 0,.lst _=>false
 | n+1,.lst l=>D.fits n l
noncomputable def D.fits:Nat->List D->Bool
 | _,[]=>true
 | n,d::l=>d.fit n&&D.fits n l
end
theorem D.fits_iff{n:Nat}:∀{l:List D},D.fits n l=true↔∀d∈l,d.fit n=true
 | []=>by simp [D.fits]
 | d::l=>by simp [D.fits,D.fits_iff (l:=l)]
mutual
theorem D.lay:∀{n:Nat} {d:D},d.fit n=true->d.py.canLay0=true/\d.py.depth<=n
 | _,.non,_=>⟨rfl,yaL _⟩
 | _,.bl _,h=>by simp [D.fit] at h
 | _,.int _,_=>⟨rfl,yaL _⟩
 | _,.str x,h=>⟨by simpa [D.fit,D.py,PyData.canLay0] using h,yaL _⟩
 | 0,.tup _,h=>by simp [D.fit] at h
 | 0,.lst _,h=>by simp [D.fit] at h
 | n+1,.tup l,h=>by
  have h':D.fits n l=true:=by simpa [D.fit] using h
  obtain ⟨a,b⟩:=D.lays h';exact ⟨by simpa [D.py,PyData.canLay0] using a,by simp only [D.py,PyData.depth];omega⟩
 | n+1,.lst l,h=>by
  have h':D.fits n l=true:=by simpa [D.fit] using h
  obtain ⟨a,b⟩:=D.lays h';exact ⟨by simpa [D.py,PyData.canLay0] using a,by simp only [D.py,PyData.depth];omega⟩
theorem D.lays:∀{n:Nat} {l:List D},D.fits n l=true->PyData.canLayAll0 (D.pys l)=true/\PyData.depthAll (D.pys l)<=n
 | _,[],_=>⟨rfl,yaL _⟩
 | n,d::l,h=>by
  simp only [D.fits,yab] at h;obtain ⟨a,b⟩:=D.lay h.1;obtain ⟨c,e⟩:=D.lays h.2;exact ⟨by simp [D.pys,PyData.canLayAll0,a,c],by simp only [D.pys,PyData.depthAll];omega⟩
end
section
variable{X:Cx}
def zg4{h:Heap}{v:Value}{d:PyData}{as:List Addr}(hl:d.canLay0=true)(r:Reads h v d as):SeqAt.readOf h v=d:=by
 have hx:∃d as,Reads h v d as:=⟨d,as,r⟩;unfold SeqAt.readOf;rw [dif_pos hx];obtain ⟨bs,rb⟩:=hx.choose_spec;exact (SeqAt.Reads.unique _ _ _ _ _ hl r rb).symm
end
end L2
namespace L2
open PySem PySem.Spec PyProof.Rows
noncomputable def zjV:Option Int->Value->Bool
 | none,.none=>true
 | some i,v=>Value.isInt i v
 | _,_=>false
theorem zaK:∀{k:Option Int} {v:Value},zjV k v=true->(k=none/\v=.none)\/∃i t,k=some i/\v=.int i t
 | none,v,h=>by
  cases v<;>simp [zjV] at h
  exact .inl ⟨rfl,rfl⟩
 | some i,v,h=>by
  obtain ⟨t,e⟩:=ydf (k:=i) (v:=v) (by simpa [zjV] using h);exact .inr ⟨i,t,rfl,e⟩
noncomputable def zhQ:Int:=reduceHash 0xFCA86420
def zkx{prog:Program}{w:World}{A:Around}{E:Z5}{s:Shared}{Q:Int->Shared->Prop}(h:Q zhQ { s with toks:=s.toks+1 }):wpAny (model prog w) A (pyHash .none) Q E s :=
 PySem.W.pyHash_slot (T:="NoneType") rfl F.slot_NoneType_hash F.entry_NoneType_hash (F.args_NoneType_hash_1 _) (beq_builtin_none _) (.inl rfl) (yaa (yac (yaa (wpAny_mkInt (yac ⟨_,_,rfl,h⟩)))))
noncomputable def zdA(prog:Program)(w:World):KeyKind prog w (Option Int) where
 is:=zjV
 hash:=fun k=>match k with | none=>zhQ | some i=>hashInt i
 inj:=fun v a b ha hb=>by
  rcases zaK ha with ⟨rfl,rfl⟩ | ⟨i,t,rfl,rfl⟩<;>rcases zaK hb with ⟨rfl,e⟩ | ⟨j,u,rfl,e⟩<;>cases e<;>rfl
 byValue:=fun k v h=>by
  rcases zaK h with ⟨rfl,rfl⟩ | ⟨i,t,rfl,rfl⟩<;>rfl
 pyHash:=fun {A E s k v Q} h hq=>by
  rcases zaK h with ⟨rfl,rfl⟩ | ⟨i,t,rfl,rfl⟩
  ·exact zkx hq
  ·exact wpAny_pyHash_int hq
 eqBool:=fun {A E s a b u v Q} ha hb hq=>by
  rcases zaK ha with ⟨rfl,rfl⟩ | ⟨i,t,rfl,rfl⟩<;>rcases zaK hb with ⟨rfl,rfl⟩ | ⟨j,u,rfl,rfl⟩
  ·unfold PySem.eqBool;refine yaW ?_;refine ycu (fun _=>yaa (yco (yac (by simpa using hq)))) (fun z=>absurd rfl z)
  ·exact SeqAt.EqAt.none_int j u prog w E Q (by simpa using hq)
  ·exact SeqAt.EqAt.int_none i t prog w E Q (by simpa using hq)
  ·refine SeqAt.EqAt.int_int i t j u prog w E Q ?_
   have e:decide (some i=some j)=(i == j):=by
    rw [yb6];simp
   rw [<-e];exact hq
 «strs»:=fun k x t v h=>by
  rcases zaK h with ⟨_,e⟩ | ⟨i,u,_,e⟩<;>cases e
noncomputable abbrev NK:=Int×List (Option Int)
noncomputable def zdz:Option Int->PyData | none=>.none | some i=>.int i
noncomputable def zdr(prog:Program)(w:World)(h:Heap)(k:NK)(a:Addr):Prop:=∃o items n t b,h.get? a=some o/\o.cls=.type "tuple" /\ o.data=.seq items n/\items.toList=[.int k.1 t,.ref b]/\IsTupleKey (zdA prog w) h k.2 b
section
variable{prog:Program}{w:World}{A:Around}{E:Z5}{s:Shared}
noncomputable def zlS(prog:Program)(w:World)(k:NK):Int:=reduceHash (Builtin.Tuple.tupleHashOf [hashInt k.1,tupleKeyHash (zdA prog w) k.2])
def zdr.typeIs{k:NK}{a:Addr}(x:zdr prog w s.heap k a):s.TypeIs (.ref a) "tuple":=let ⟨o,_,_,_,_,ho,hc,_⟩:=x;⟨o,ho,hc⟩
theorem zcT{h:Heap}:∀{l:Z4} {vs:List Value},ItemsAre (zdA prog w) l vs->ReadsAll h vs (l.map zdz) []
 | _,_,.nil=>.nil
 | _,_,.cons h1 r=>by
  rcases zaK h1 with ⟨rfl,rfl⟩ | ⟨i,t,rfl,rfl⟩
  ·exact .cons (as:=[]) (bs:=[]) .none (zcT r)
  ·exact .cons (as:=[]) (bs:=[]) (.int i t) (zcT r)
def zdr.reads{h:Heap}{k:NK}{a:Addr}(x:zdr prog w h k a):Reads h (.ref a) (.tuple [.int k.1,.tuple (k.2.map zdz)]) []:=by
 obtain ⟨o,items,n,t,b,ho,hc,hd,hi,ob,its,m,hob,hcb,hdb,hib⟩:=x;refine .tuple ho hc hd ?_;rw [hi];exact .cons (as:=[]) (bs:=[]) (.int _ _) (.cons (as:=[]) (bs:=[]) (.tuple hob hcb hdb (zcT hib)) .nil)
theorem zgi:∀{l m:Z4},PyData.eqvAll (l.map zdz) (m.map zdz)=decide (l=m)
 | [],[]=>by simp [PyData.eqvAll]
 | [],_::_=>by simp [PyData.eqvAll]
 | _::_,[]=>by simp [PyData.eqvAll]
 | x::l,y::m=>by
  have ih:=zgi (l:=l) (m:=m);simp only [yau,PyData.eqvAll,ih]
  cases x<;>cases y<;>simp [zdz,PyData.eqv]
  rw [yb6];simp
theorem zd4:∀{l:Z4},PyData.canLayAll0 (l.map zdz)=true/\PyData.depthAll (l.map zdz)=0
 | []=>⟨rfl,rfl⟩
 | x::l=>by
  obtain ⟨a,b⟩:=zd4 (l:=l)
  cases x<;>simp [zdz,PyData.canLayAll0,PyData.depthAll,PyData.canLay0,PyData.depth,a,b]
noncomputable def zdg(prog:Program)(w:World):HeapKind prog w NK where
 is:=zdr prog w
 hash:=zlS prog w
 draws:=fun k=>1+(k.2.length+1)+1
 room:=fun A=>A.units+8<cLine
 inj:=fun {h a x y} hx hy=>by
  obtain ⟨o,items,n,t,b,ho,hc,hd,hi,kx⟩:=hx;obtain ⟨o',items',n',t',b',ho',hc',hd',hi',ky⟩:=hy;rw [ho] at ho';cases ho';rw [hd] at hd';cases hd';rw [hi] at hi';simp only [List.cons.injEq,Value.int.injEq,Value.ref.injEq,and_true] at hi';obtain ⟨⟨e1,_⟩,e2⟩:=hi';subst e2;exact Prod.ext e1 (kx.inj ky)
 keeps:=fun {h h' k a d o es ep} x ho hd hs=>by
  obtain ⟨o1,items,n,t,b,ho1,hc,hd1,hi,kx⟩:=x;refine ⟨o1,items,n,t,b,(hs.2 a ?_).trans ho1,hc,hd1,hi,kx.keeps ho hd hs⟩;rintro rfl;rw [ho] at ho1;cases ho1;rw [hd] at hd1;cases hd1
 pyHash:=fun {A E s k a Q} hu x hq=>by
  have hT:=zdr.typeIs (prog:=prog) (w:=w) x;obtain ⟨o,items,n,t,b,ho,hc,hd,hi,kx⟩:=x;refine PySem.W.pyHash_slot (T:="tuple") hT F.slot_tuple_hash F.entry_tuple_hash (F.args_tuple_hash_1 _) (beq_builtin_none _) (.inr (by omega)) ?_;show wpAny _ _ (Builtin.Tuple.tupleItemsOf (.ref a) >>= _) _ _ s;refine yaa (yc7 ho hd ?_);refine yaa ?_;rw [<-yc8,hi];refine wpAny_forIn_list _ (fun zbt (r:Array Int) s'=>(zbt=[.int k.1 t,.ref b]/\r.toList=[]/\s'=s)\/(zbt=[.ref b]/\r.toList=[hashInt k.1]/\s'={ s with toks:=s.toks+1 })\/(zbt=[]/\r.toList=[hashInt k.1,tupleKeyHash (zdA prog w) k.2]/\s'={ s with toks:=s.toks+1+(k.2.length+1) })) _ ?_ ?_ _ _ (.inl ⟨rfl,rfl,rfl⟩)
  ·rintro x zbt r s' (⟨e,hr,rfl⟩ | ⟨e,hr,rfl⟩ | ⟨e,hr,rfl⟩)
   ·injection e with e1 e2
    subst e1 e2;refine yaa (wpAny_pyHash_int ?_)
    first
     | exact yac (.inr (.inl ⟨rfl,by simp [hr],rfl⟩))
     | exact yaa (yac (yac (.inr (.inl ⟨rfl,by simp [hr],rfl⟩))))
   ·injection e with e1 e2
    subst e1 e2;refine yaa (wpAny_pyHash_tuple (A:=A.in1) (by show A.units+1<cLine;omega) kx ?_)
    first
     | exact yac (.inr (.inr ⟨rfl,by simp [hr],rfl⟩))
     | exact yaa (yac (yac (.inr (.inr ⟨rfl,by simp [hr],rfl⟩))))
   ·cases e
  ·rintro r s' (⟨e,_⟩ | ⟨e,_⟩ | ⟨_,hr,rfl⟩)
   ·cases e
   ·cases e
   ·show wpAny _ _ (retInt (Builtin.Tuple.tupleHashOf r.toList)) _ _ _;rw [hr];refine yaa (wpAny_mkInt (yac ⟨_,_,rfl,?_⟩))
    have e:s.toks+1+(k.2.length+1)+1=s.toks+(1+(k.2.length+1)+1):=by omega
    show Q _ { s with toks:=s.toks+1+(k.2.length+1)+1 };rw [e];exact hq
 eqBool:=fun {A E s x y a b Q} hu hx hy hq=>by
  refine SeqAt.eqAt_reads _ _ A s (.ref a) (.ref b) [] [] hx.reads hy.reads ?_ ?_ ?_ prog w E Q ?_
  ·simp [PyData.canLay0,PyData.canLayAll0,zd4.1]
  ·simp [PyData.canLay0,PyData.canLayAll0,zd4.1]
  ·have h1:(PyData.tuple [.int x.1,.tuple (x.2.map zdz)]).depth<=3:=by
    simp [PyData.depth,PyData.depthAll,zd4.2]
   have:min (PyData.tuple [.int x.1,.tuple (x.2.map zdz)]).depth (PyData.tuple [.int y.1,.tuple (y.2.map zdz)]).depth<=3:=yaq (Nat.min_le_left _ _) h1;omega
  ·have e:(PyData.tuple [.int x.1,.tuple (x.2.map zdz)]).eqv (.tuple [.int y.1,.tuple (y.2.map zdz)])=decide (x=y):=by
    simp only [PyData.eqv,PyData.eqvAll,zgi];rw [yb6];simp [Prod.ext_iff]
   rw [e];exact hq
 quiet:=fun {A E s k a Q} x hq=>by
  have hT:=zdr.typeIs (prog:=prog) (w:=w) x;obtain ⟨o,items,n,t,b,ho,hc,hd,hi,kx⟩:=x;have hTb:=kx.typeIs;obtain ⟨ob,its,m,hob,hcb,hdb,hib⟩:=kx
  have low:wpAny (model prog w) A (eqIsQuiet 7 (.ref b)) (fun r s'=>r=true/\s'=s) E s:=by
   unfold eqIsQuiet;refine yaa (ybC hTb F.slot_tuple_eq.lookup ?_);show wpAny _ _ (isInstance (.ref b) (.type "tuple") >>= _) _ _ s;refine yaa (ybE hTb isSubtype_tuple_tuple ?_);simp only [ycd,yax,ybm];refine yaa (ycK hob hdb (yaa ?_));show wpAny _ _ (forIn its _ _) _ _ s;rw [<-yc8];refine wpAny_forIn_list _ (fun zbt r s'=>r.1=none/\s'=s/\∀v∈zbt,carriedByValue v=true) _ ?_ ?_ _ _ ⟨rfl,rfl,hib.byValue⟩
   ·rintro v zbt r s' ⟨hr,rfl,hall⟩;rw [eqIsQuiet_byValue _ (hall v yaD)];refine yaa (yac ?_);simp only [ycd,yax,ybm];exact yac ⟨rfl,rfl,fun z hz=>hall z (yaw _ hz)⟩
   ·rintro ⟨r1,r2⟩ s' ⟨hr,rfl,_⟩;simp only at hr;subst hr;exact yac ⟨rfl,rfl⟩
  unfold eqIsQuiet;refine yaa (ybC hT F.slot_tuple_eq.lookup ?_);show wpAny _ _ (isInstance (.ref a) (.type "tuple") >>= _) _ _ s;refine yaa (ybE hT isSubtype_tuple_tuple ?_);simp only [ycd,yax,ybm];refine yaa (ycK ho hd (yaa ?_));show wpAny _ _ (forIn items _ _) _ _ s;rw [<-yc8,hi];refine wpAny_forIn_list _ (fun zbt r s'=>r.1=none/\s'=s/\(zbt=[.int k.1 t,.ref b]\/zbt=[.ref b]\/zbt=[])) _ ?_ ?_ _ _ ⟨rfl,rfl,.inl rfl⟩
  ·rintro v zbt r s' ⟨hr,rfl,(e | e | e)⟩
   ·injection e with e1 e2
    subst e1 e2;rw [eqIsQuiet_byValue _ rfl];refine yaa (yac ?_);simp only [ycd,yax,ybm];exact yac ⟨rfl,rfl,by simp⟩
   ·injection e with e1 e2
    subst e1 e2;refine yaa (ybx low (fun r' s'' hz=>?_) fun _ _ z=>z);obtain ⟨rfl,rfl⟩:=hz;simp only [ycd,yax,ybm];exact yac ⟨rfl,rfl,by simp⟩
   ·cases e
  ·rintro ⟨r1,r2⟩ s' ⟨hr,rfl,_⟩;simp only at hr;subst hr;exact yac hq
end
end L2
namespace L2
open PySem PySem.Spec PyProof.Rows
section
variable{σ:St}{H:Hp}{K:PySem.W.Frag}{te:TE}{tt:TT}{caps:List (Str×Nat)}{Q:VK}
end
end L2
namespace L2
open PySem PySem.Spec PyProof.Rows
noncomputable def oV:Option Int->V | none=>.non | some i=>.int i
noncomputable def DN(P:Program)(w:World)(a:Addr)(xs:List (NK×Addr×Value))(h:Heap):Prop :=
 ∃o es ep,h.get? a=some o/\o.ExactDict/\o.data=.dict es ep/\es.toList=xs.map (entryOfKey (zdg P w))/\(xs.map (·.1)).Nodup/\(a == sysModules)=false
noncomputable def zhu(H:Hp)(kb:Addr)(k:NK):Prop:=∃b,H kb=some (.tup [.int k.1,.ref b])/\H b=some (.tup (k.2.map oV))
noncomputable def zmN(H:Hp)(xs:List (NK×Addr×Value))(m:List (NK×V)):Prop:=Paired (fun (x:NK×Addr×Value) (p:NK×V)=>x.1=p.1/\zhu H x.2.1 x.1/\zaE p.2 x.2.2) xs m
def zh3{P:Program}{w:World}{a:Addr}{xs:List (NK×Addr×Value)}:∀h1 h2:Heap,DN P w a xs h1->(∀o,h1.get? a=some o->h2.get? a=some o)->DN P w a xs h2:=fun h1 h2 ⟨o,es,ep,e,r⟩ k=>⟨o,es,ep,k _ e,r⟩
section
variable{X:Cx}{pins:Z3}{σ:St}{H:Hp}{s:Shared}
theorem zea:∀{l:Z4} {its:List Value},Vals (l.map oV) its->ItemsAre (zdA X.prog X.w) l its
 | [],_,.nil=>.nil
 | none::l,_,.cons r t=>by
  cases r;exact .cons rfl (zea t)
 | some i::l,_,.cons r t=>by
  obtain ⟨u,rfl⟩:=r;exact .cons (by simp [zdA,zjV,Value.isInt]) (zea t)
def Inv.nest(I:Inv X pins σ H s){kb:Addr}{k:NK}(h:zhu H kb k):zdr X.prog X.w s.heap k kb:=by
 obtain ⟨b,h1,h2⟩:=h;obtain ⟨its,rv,⟨o,ho,hc,n,hd⟩,_⟩:=I.tuple (SqT.of (K:=X.K) h1);obtain ⟨its2,rv2,⟨o2,ho2,hc2,n2,hd2⟩,_⟩:=I.tuple (SqT.of (K:=X.K) h2)
 cases rv with
 | cons r1 rr =>
  cases rr with
  | cons r2 rr =>
   cases rr;obtain ⟨t,rfl⟩:=r1;cases r2;exact ⟨o,_,n,t,b,ho,hc,hd,rfl,o2,_,n2,ho2,hc2,hd2,by simpa using zea rv2⟩
def zmN.keys{xs:List (NK×Addr×Value)}{m:List (NK×V)}(I:Inv X pins σ H s):zmN H xs m->∀x∈xs,zdr X.prog X.w s.heap x.1 x.2.1:=by
 intro h
 induction h with
 | nil=>intro x hx;simp at hx
 | cons h t ih =>
  intro x hx
  rcases yat.mp hx with rfl | hx
  ·exact I.nest h.2.1
  ·exact ih x hx
def Inv.ndict(I:Inv X pins σ H s){a:Addr}{xs:List (NK×Addr×Value)}{m:List (NK×V)}(h:H a=some (.ext (DN X.prog X.w a xs)))(e:zmN H xs m):s.heap.DictOfH (zdg X.prog X.w) a xs/\(a == sysModules)=false:=by
 obtain ⟨⟨o,es,ep,h1,h2,h3,h4,h5,h6⟩,_⟩:=I.hok a _ h;exact ⟨⟨o,es,ep,h1,h2,h3,h4,e.keys I,h5⟩,h6⟩
def zdG{xs:List (NK×Addr×Value)}{m:List (NK×V)}(e:zmN H xs m)(k:NK):(m.lookup k=none/\atKey xs k=none)\/∃c p,m.lookup k=some c/\atKey xs k=some p/\zaE c p.2:=by
 induction e with
 | nil=>exact .inl ⟨rfl,rfl⟩
 | @cons x p l1 l2 h t ih =>
  obtain ⟨h1,h2,h3⟩:=h
  by_cases hk:x.1=k
  ·refine .inr ⟨p.2,x.2,?_,?_,h3⟩
   ·obtain ⟨pk,pc⟩:=p;simp only at h1;subst h1;rw [yaA,hk];simp
   ·simp [atKey,hk]
  ·have hk':¬ p.1=k:=by rw [<-h1];exact hk
   have e1:List.lookup k (p::l2)=List.lookup k l2:=by
    obtain ⟨pk,pc⟩:=p;rw [yaA]
    have:(k == pk)=false:=by
     rw [yaZ];exact fun z=>hk' z.symm
    rw [this]
   have e2:atKey (x::l1) k=atKey l1 k:=by simp [atKey,ybh,hk]
   rw [e1,e2];exact ih
def zne(hu:X.A.units+16<cLine):OpR X (compareOp .NotIn) (fun x y H Q=>∃kb a k xs m,x=.ref kb/\y=.ref a/\zhu H kb k/\H a=some (.ext (DN X.prog X.w a xs))/\zmN H xs m/\Q (.bl (m.lookup k).isNone) H):=by
 intro pins s σ H x y v u Q I rx ry h;obtain ⟨kb,a,k,xs,m,rfl,rfl,hk,hx,he,q⟩:=h;cases rx;cases ry;obtain ⟨hm,hd⟩:=I.ndict hx he;refine wpAny_notIn_heap (knd:=zdg X.prog X.w) (k:=k) (by show X.A.units+1+8<cLine;omega) (I.nest hk) hd hm ⟨.bl _,H,I.tok _,?_,q⟩
 rcases zdG he k with ⟨e1,e2⟩ | ⟨c,p,e1,e2,_⟩<;>rw [e1,e2]<;>rfl
def zrK(hu:X.A.units+16<cLine):IxR X (fun x y H Q=>∃a kb k xs m c,x=.ref a/\y=.ref kb/\zhu H kb k/\H a=some (.ext (DN X.prog X.w a xs))/\zmN H xs m/\m.lookup k=some c/\Q c H):=by
 intro value slice pins s σ H x y v u Q I rx ry h hs;obtain ⟨a,kb,k,xs,m,c,rfl,rfl,hk,hx,he,hl,q⟩:=h;cases rx;cases ry;obtain ⟨hm,hd⟩:=I.ndict hx he
 rcases zdG he k with ⟨e1,_⟩ | ⟨c',p,e1,e2,r⟩
 ·rw [e1] at hl;cases hl
 ·rw [e1] at hl;cases hl;exact ycF (x:=p.2) hm.typeIs slot_dict_getitem.lookup (wpAny_getItem_heap (knd:=zdg X.prog X.w) (k:=k) (by show X.A.units+1+8<cLine;omega) (I.nest hk) hm e2 ⟨rfl,c,H,I.tok _,r,q⟩) hs
def zn8(hu:X.A.units+16<cLine):zuZ X (fun o i v H Q=>∃a kb k xs m,o=.ref a/\i=.ref kb/\zhu H kb k/\H a=some (.ext (DN X.prog X.w a xs))/\zmN H xs m/\m.lookup k=none/\m.length<=1000000/\∀u,zaE v u->Q (upd H a (.ext (DN X.prog X.w a (xs++[(k,kb,u)]))))):=by
 intro pins s σ H o i v ov iv u Q I ro ri rv h;obtain ⟨a,kb,k,xs,m,rfl,rfl,hk,hx,he,hl,hz,q⟩:=h;cases ro;cases ri;obtain ⟨hm,hd⟩:=I.ndict hx he;have hlen:xs.length=m.length:=Paired.length he
 have e2:atKey xs k=none:=by
  rcases zdG he k with ⟨_,e2⟩ | ⟨c',p,e1,_,_⟩
  ·exact e2
  ·rw [e1] at hl;cases hl
 refine wpAny_setItem_heap (knd:=zdg X.prog X.w) (k:=k) (by show X.A.units+1+8<cLine;omega) (I.nest hk) hm (fun h' hm' sb=>?_) (by rw [hlen];exact yaq hz (by decide));rw [storedH_new e2] at hm';obtain ⟨o,es,ep,g1,g2,g3,g4,g5,g6⟩:=hm';have dn:DN X.prog X.w a (xs++[(k,kb,u)]) h':=⟨o,es,ep,g1,g2,g3,g4,g6,hd⟩;refine ⟨upd H a (.ext (DN X.prog X.w a (xs++[(k,kb,u)]))),?_,q u rv⟩;exact I.write (x:=a) (e:=a) (by rw [hx];trivial) (.inl rfl) (fun b o hb z=>(sb.2 b hb).trans z) ⟨_,g1⟩ ⟨dn,⟨_,g1⟩,zh3⟩
noncomputable def ztn(P:Program)(w:World):TE:=fun _ H Q=>∀p,H p=none->Q (.ref p) (upd H p (.ext (DN P w p [])))
def zoy{pos:Pos}:PE X (.Dict [] [] pos) (ztn X.prog X.w):=fun pins s σ H Q I h=>by
 have big:sysModules<s.heap.objs.size:=yc9 (show sysModules<mainGlobals by decide) (I.mod.glob.keeps I.bk).lt;have hne:(s.heap.objs.size == sysModules)=false:=yaZ.mpr (Ne.symm (yar big));have dn:DN X.prog X.w s.heap.objs.size [] (s.heap.push { cls:=.type "dict",data:=.dict #[] }):=⟨_,#[],0,yak _ rfl,⟨rfl,rfl,rfl⟩,rfl,rfl,List.nodup_nil,hne⟩;refine wpAny_Dict_empty ⟨.ref s.heap.objs.size,upd H s.heap.objs.size (.ext (DN X.prog X.w s.heap.objs.size [])),?_,rfl,h _ (I.hok.fresh (yah _))⟩;exact I.laid (a:=s.heap.objs.size) (t':=s.toks) (fun _ _ q=>yae _ q) (yah _) ⟨dn,⟨_,yak _ rfl⟩,zh3⟩
end
end L2
namespace L2
open PySem PySem.Spec PyProof.Rows
section
variable{κ:Type}[DecidableEq κ]
noncomputable def zc3(kvs:List (κ×V))(k:κ):Option V:=(kvs.find? fun kv=>decide (kv.1=k)).map (·.2)
noncomputable def zdW(kvs:List (κ×V))(k:κ)(v:V):List (κ×V) :=
 if (kvs.any fun kv=>decide (kv.1=k))=true then kvs.map (fun kv=>if kv.1=k then (kv.1,v) else kv) else kvs++[(k,v)]
def zaZ{p:κ×V}{r:List (κ×V)}{k:κ}(e:p.1=k):zc3 (p::r) k=some p.2:=by simp [zc3,ybh,e]
def za0{p:κ×V}{r:List (κ×V)}{k:κ}(e:¬ p.1=k):zc3 (p::r) k=zc3 r k:=by simp [zc3,ybh,e]
theorem zdY(k:κ):∀kvs:List (κ×V),(kvs.any fun kv=>decide (kv.1=k))=(zc3 kvs k).isSome
 | []=>rfl
 | p::r=>by
  rw [ydm]
  by_cases e:p.1=k
  ·simp only [zaZ e,yaH e,Bool.true_or,Option.isSome_some]
  ·rw [za0 e,yaE e,Bool.false_or];exact zdY k r
theorem zhw(k j:κ)(y:V):∀kvs:List (κ×V),zc3 (kvs.map fun kv=>if kv.1=k then (kv.1,y) else kv) j=(zc3 kvs j).map fun x=>if j=k then y else x
 | []=>rfl
 | p::r=>by
  have ih:=zhw k j y r;rw [yau]
  by_cases h:p.1=k
  ·rw [if_pos h]
   by_cases e:p.1=j
   ·rw [zaZ (p:=(p.1,y)) e,zaZ e,yc0,if_pos (e.symm.trans h)]
   ·rw [za0 (p:=(p.1,y)) e,za0 e,ih]
  ·rw [if_neg h]
   by_cases e:p.1=j
   ·rw [zaZ (p:=p) e,zaZ e,yc0,if_neg (fun z=>h (e.trans z))]
   ·rw [za0 (p:=p) e,za0 e,ih]
theorem zfT(k j:κ)(y:V):∀kvs:List (κ×V),zc3 kvs k=none->zc3 (kvs++[(k,y)]) j=if j=k then some y else zc3 kvs j
 | [],_=>by
  by_cases e:k=j
  ·rw [if_pos e.symm];exact zaZ (p:=(k,y)) e
  ·rw [if_neg (fun z=>e z.symm)];exact za0 (p:=(k,y)) e
 | p::r,hn=>by
  rw [List.cons_append]
  have hk:¬ p.1=k:=fun z=>by rw [zaZ z] at hn;cases hn
  rw [za0 hk] at hn;have ih:=zfT k j y r hn
  by_cases e:p.1=j
  ·rw [zaZ e,zaZ e,if_neg (fun z=>hk (e.trans z))]
  ·rw [za0 e,za0 e,ih]
def ze9(kvs:List (κ×V))(k j:κ)(y:V):zc3 (zdW kvs k y) j=if j=k then some y else zc3 kvs j:=by
 unfold zdW
 by_cases a:(kvs.any fun kv=>decide (kv.1=k))=true
 ·rw [if_pos a,zhw];rw [zdY] at a
  by_cases e:j=k
  ·obtain ⟨x,hx⟩:=ycp.mp a;rw [if_pos e,e,hx,yc0,if_pos rfl]
  ·rw [if_neg e]
   cases zc3 kvs j with
   | none=>rfl
   | some x=>rw [yc0,if_neg e]
 ·rw [if_neg a];refine zfT k j y kvs ?_;rw [zdY] at a
  cases q:zc3 kvs k with
  | none=>rfl
  | some x=>rw [q] at a;exact (a rfl).elim
def zb5(kvs:List (κ×V))(k:κ)(v:V):(zdW kvs k v).length<=kvs.length+1:=by
 unfold zdW;split
 ·rw [yaf];omega
 ·rw [yav,yap,List.length_nil];omega
def zgP.isSome_eq{o:Option V}{u:Option Value}(r:zgP o u):o.isSome=u.isSome:=by
 cases o with
 | none=>cases u with
  | none=>rfl
  | some _=>exact (show False from r).elim
 | some _=>cases u with
  | none=>exact (show False from r).elim
  | some _=>rfl
theorem zgP.getD{o:Option V}{u:Option Value}{d:V}{d':Value}(r:zgP o u)(rd:zaE d d'):zaE (o.getD d) (u.getD d'):=by
 cases o with
 | none=>cases u with
  | none=>exact rd
  | some _=>exact (show False from r).elim
 | some _=>cases u with
  | none=>exact (show False from r).elim
  | some _=>exact r
end
def zkg{P:Program}{w:World}{k:Key}{u:Value}(r:zaE (kV k) u):(zaS P w).is k u=true:=by
 cases k with
 | inl i=>obtain ⟨t,e⟩:=(show ∃t,u=Value.int i t from r);subst e;exact zhc P w i t
 | inr x=>obtain ⟨t,e⟩:=(show ∃t,u=Value.str x t from r);subst e;exact zhb P w x t
theorem zgr{P:Program}{w:World}:∀{ks:List Key} {us:List Value},Vals (ks.map kV) us->ItemsAre (zaS P w) ks us
 | [],_,r=>by rw [List.map_nil] at r;cases r;exact .nil
 | k::ks,_,r=>by
  rw [yau] at r
  cases r with
  | cons h t=>exact .cons (zkg h) (zgr t)
noncomputable abbrev KT(H:Hp):List (List Key×V)->List (List Key×Addr×Value)->Prop:=Paired fun p q=>p.1=q.1/\H q.2.1=some (.tup (p.1.map kV))/\zaE p.2 q.2.2
def KT.val{H:Hp}{kvs:List (List Key×V)}{xs:List (List Key×Addr×Value)}(r:KT H kvs xs)(k:List Key):zgP (zc3 kvs k) ((atKey xs k).map (·.2)):=by
 induction r with
 | nil=>exact True.intro
 | @cons p q ps qs h t ih =>
  obtain ⟨h1,_,h2⟩:=h
  by_cases e:p.1=k
  ·have e':q.1=k:=h1.symm.trans e
   have b:atKey (q::qs) k=some q.2:=by simp [atKey,ybh,e']
   rw [zaZ e,b];exact h2
  ·have e':¬ q.1=k:=fun z=>e (h1.trans z)
   have b:atKey (q::qs) k=atKey qs k:=by simp [atKey,ybh,e']
   rw [za0 e,b];exact ih
def KT.repl{H:Hp}{kvs:List (List Key×V)}{xs:List (List Key×Addr×Value)}(r:KT H kvs xs)(k:List Key){y:V}{u:Value}(ry:zaE y u) :
  KT H (kvs.map fun kv=>if kv.1=k then (kv.1,y) else kv) (xs.map (putAt k u)):=by
 induction r with
 | nil=>exact .nil
 | @cons p q ps qs h t ih =>
  rw [yau,yau];refine .cons ?_ ih;obtain ⟨h1,h2,h3⟩:=h;unfold putAt
  by_cases e:p.1=k
  ·rw [if_pos e,if_pos (h1.symm.trans e)];exact ⟨h1,h2,ry⟩
  ·rw [if_neg e,if_neg (fun z=>e (h1.trans z))];exact ⟨h1,h2,h3⟩
def KT.put{H:Hp}{kvs:List (List Key×V)}{xs:List (List Key×Addr×Value)}(r:KT H kvs xs)(k:List Key){b:Addr}{y:V}{u:Value}(hb:H b=some (.tup (k.map kV)))(ry:zaE y u) :
  KT H (zdW kvs k y) (storedH xs k b u):=by
 have e:(kvs.any fun kv=>decide (kv.1=k))=(atKey xs k).isSome:=by
  rw [zdY,(r.val k).isSome_eq,Option.isSome_map]
 unfold zdW storedH;rw [e]
 by_cases q:(atKey xs k).isSome=true
 ·rw [if_pos q,if_pos q];exact r.repl k ry
 ·rw [if_neg q,if_neg q];exact Paired.snoc r ⟨rfl,hb,ry⟩
def KT.keeps{H H':Hp}{kvs:List (List Key×V)}{xs:List (List Key×Addr×Value)}(r:KT H kvs xs)(ht:∀b ys,H b=some (.tup ys)->H' b=some (.tup ys)):KT H' kvs xs :=
 Paired.mapP r fun _ _ z=>⟨z.1,ht _ _ z.2.1,z.2.2⟩
section
variable{P:Program}{w:World}{H:Hp}{h:Heap}{a:Addr}
def zqK{u:HO}(ok:HOk P w H h)(e:Rd H a u):za3 P w H h a u:=e.ok ok
def zkc{ks:List Key}(ok:HOk P w H h)(e:H a=some (.tup (ks.map kV))):(tupleKind (zaS P w)).is h ks a:=by
 obtain ⟨_,its,r,o,h1,h2,n,h3⟩:=(show za3 P w H h a (.tup (ks.map kV)) from ok a _ e);exact ⟨o,its.toArray,n,h1,h2,h3,by simpa using zgr r⟩
def zph{kvs:List (List Key×V)}(ok:HOk P w H h)(e:Rd H a (.dT kvs)):kvs.length<=sizeLine/\(a == sysModules)=false ∧
  ∃xs,KT H kvs xs/\h.DictOfH (tupleKind (zaS P w)) a xs:=by
 obtain ⟨z,y,xs,r,o,es,ep,h1,h2,h3,h4,h5⟩:=(show za3 P w H h a (.dT kvs) from zqK ok e);refine ⟨z,y,xs,r,o,es,ep,h1,h2,h3,h4,fun x hx=>?_,h5⟩
 have all:∀{l:List (List Key×V)} {m:List (List Key×Addr×Value)},KT H l m->∀x∈m,(tupleKind (zaS P w)).is h x.1 x.2.1:=by
  intro l m q
  induction q with
  | nil=>intro x hx;exact nomatch hx
  | @cons p q ps qs hq t ih =>
   intro x hx
   rcases yat.mp hx with e | hx
   ·subst e;exact zkc ok (by rw [<-hq.1];exact hq.2.1)
   ·exact ih x hx
 exact all r x hx
def zuC{kvs:List (List Key×V)}(ok:HOk P w H h)(e:H a=some (.dT kvs)):kvs.length<=sizeLine/\(a == sysModules)=false ∧
  ∃xs,KT H kvs xs/\h.DictOfH (tupleKind (zaS P w)) a xs:=zph ok (.inl e)
end
noncomputable def zsq(H:Hp)(a:Addr)(y:V)(r:Option V):Prop:=∃kvs k b,Rd H a (.dT kvs)/\y=.ref b/\H b=some (.tup (k.map kV))/\r=zc3 kvs k
def zsq.t{H:Hp}{a b:Addr}{kvs:List (List Key×V)}{k:List Key}(e:H a=some (.dT kvs))(eb:H b=some (.tup (k.map kV))):zsq H a (.ref b) (zc3 kvs k):=⟨kvs,k,b,.inl e,rfl,eb,rfl⟩
section
variable{X:Cx}{pins:Z3}{σ:St}{H:Hp}{s:Shared}{a:Addr}{y v:V}{u r:Value}{o:Option V}{A:Around}{E:Z5}
def Inv.big(I:Inv X pins σ H s):sysModules<s.heap.objs.size:=by
 have h:mainGlobals<s.heap.objs.size:=(I.mod.glob.keeps I.bk).lt;exact yc9 (by decide) h
def zkI{h':Heap}{t':Nat}{ob:HO}(I:Inv X pins σ H s)(mu:Mut (H a))(hs:Heap.SameBut a s.heap h')(he:∃q,h'.get? a=some q)(new:za3 X.prog X.w (upd H a ob) h' a ob) :
  Inv X pins σ (upd H a ob) { s with heap:=h',toks:=t' } :=
 I.write (x:=a) (e:=a) mu (.inl rfl) (fun b q hb z=>(hs.2 b hb).trans z) he new
end
section
variable{X:Cx}{pins:Z3}{σ:St}{H:Hp}{s:Shared}{a:Addr}{kvs:List (Key×V)}{k:Key}{u:Value}{A:Around}{E:Z5}
end
section
variable{X:Cx}{o i e value:Expr}{pos pos' tpos:Pos}{td ty tv:TE}
end
def zmq{P:Program}{w:World}{H:Hp}(h:Heap)(hb:sysModules<h.objs.size):za3 P w H (h.push { cls:=.type "dict",data:=.dict #[] }) h.objs.size (.dT []) :=
 ⟨yaL _,yaZ.mpr (Ne.symm (yar hb)),[],.nil,_,#[],0,yak _ rfl,⟨rfl,rfl,rfl⟩,rfl,rfl,List.nodup_nil⟩
section
variable{X:Cx}{pos:Pos}
end
structure M2(X:Cx)(o:Expr)(m:Str)(apos:Pos)(e f:Expr)(cpos:Pos):Prop where
 base:attributeBase o m X.env (eval o X.env)=eval o X.env
 few:((backTo cpos (starEach [e,f] X.env)).all (fun x=>!x.1)&&(backToKw cpos (keywordEach [] X.env)).all (fun x=>x.1.isSome)
  && decide (([e,f]:List Expr).length+([]:List Keyword).length+(if ([]:List Keyword).isEmpty then 0 else 1)<30))=true
 line:(apos.endLine == cpos.line)=true
 trees:backTo cpos (starEach [e,f] X.env)=[(false,eval e X.env),(false,eval f X.env)]
noncomputable def IsD(H:Hp)(a:Addr):Prop:=∃kvs,Rd H a (.dT kvs)
def zrQ{X:Cx}{pins:Z3}{σ:St}{H:Hp}{s:Shared}{a:Addr}(I:Inv X pins σ H s)(d:IsD H a) :
  s.TypeIs (.ref a) "dict" /\ (∀b,Value.ref a=.ref b->∃ob,s.heap.get? b=some ob/\ob.dict=none)/\(a == sysModules)=false:=by
 obtain ⟨kvs,e⟩:=d;obtain ⟨_,hd,xs,_,dd⟩:=zph I.hok e;refine ⟨dd.typeIs,fun b q=>?_,hd⟩;cases q;obtain ⟨ob,_,_,h1,h2,_⟩:=dd;exact ⟨ob,h1,h2.2.1⟩
section
variable{X:Cx}{pins:Z3}{σ:St}{H:Hp}{s:Shared}{a:Addr}{y d:V}{u r:Value}{o:Option V}{A:Around}{E:Z5}
def zr4{Q:Z5}(hu:A.units+1<cLine)(I:Inv X pins σ H s)(g:zsq H a y o)(ry:zaE y u)(rd:zaE d r)(h:∀w' s',Inv X pins σ H s'->zaE (o.getD d) w'->Q w' s') :
  wpAny (model X.prog X.w) A (call (.builtin "dict.get") [.ref a,u,r]) Q E s:=by
 obtain ⟨kvs,k,b,e,ey,eb,l⟩:=g;subst ey;cases (show u=Value.ref b from ry);obtain ⟨z,hd,xs,rel,dd⟩:=zph I.hok e;refine call_meetsIn yb7 dd.typeIs PySem.F.entry_dict_get (PySem.F.args_dict_get_3 _ _ _) (meetsH_dict_get_default (tupleKind (zaS X.prog X.w)) a b hd r) ⟨tupleKind_room_in1 hu,k,xs,zkc I.hok eb,dd,h _ _ (I.tok _) ?_⟩;rw [l];exact (rel.val k).getD rd
end
noncomputable def zpY(td ty tx:TE):TE:=fun σ H Q=>td σ H fun x H1=>∃a,x=.ref a/\IsD H1 a/\ty σ H1 fun y H2=>tx σ H2 fun z H3=>∃o,zsq H3 a y o/\Q (o.getD z) H3
section
variable{X:Cx}{o e f:Expr}{apos cpos:Pos}{td ty tx:TE}
def zlE(hu:X.A.units+1<cLine)(ho:PE X o td)(he:PE X e ty)(hf:PE X f tx)(m:M2 X o "get" apos e f cpos):PE X (.Call (.Attribute o "get" apos) [e,f] [] cpos) (zpY td ty tx):=by
 intro pins s σ H Q I h;refine ydi m.base m.few m.line ycv yb7 PySem.F.type_dict_get (thn (ho pins s σ H _ I h) fun u s1 ⟨x,H1,I1,rx,a,ex,d,q1⟩=>?_);subst ex;obtain rfl:u=Value.ref a:=rx;obtain ⟨t1,t2,_⟩:=zrQ I1 d;refine ⟨t1,t2,?_⟩;rw [m.trees]
 refine yb0 rfl (ycS (ybF (thn (he pins s1 σ H1 _ I1 q1) fun iv s2 ⟨y,H2,I2,ry,q2⟩ =>
  ybF (thn (hf pins s2 σ H2 _ I2 q2) fun fv s3 ⟨z,H3,I3,rz,ov,g,q3⟩=>ycG ?_))))
 exact zr4 hu I3 g ry rz fun w' s4 I4 rw'=>⟨_,H3,I4,rw',q3⟩
end
section
variable{X:Cx}{pins:Z3}{σ:St}{H:Hp}{s:Shared}{a:Addr}{kvs:List (Key×V)}{A:Around}{E:Z5}
end
section
variable{X:Cx}{pins:Z3}{σ:St}{H:Hp}{s:Shared}{a:Addr}{y:V}{u:Value}{A:Around}{E:Z5}
end
end L2
namespace S2
open PySem PySem.Spec PyProof.Rows L2
noncomputable abbrev St:=L2.St
inductive D where
 | non | bl (b:Bool) | int (i:Int) | str (x:Str) | tup (l:List D) | lst (l:List D) | dic (l:List (D×D)) | ref (n:Nat) | exc (c:Str) | scr (l:List Int)
inductive Root where
 | slot (i:Nat) | fld (n:Nat) (f:Str) | obj (n:Nat) | far
 deriving DecidableEq
noncomputable abbrev Ow:=Addr->Option Root
structure Cf where
 ad:Str->Addr
 K:PySem.W.Frag
 P:Program
 wo:PySem.World
noncomputable instance:CoeFun Cf (fun _=>Str->Addr):=⟨Cf.ad⟩
structure Wd where
 H:Hp
 ow:Ow
 mu:List Addr
noncomputable def zxZ:Key->D | .inl i=>.int i | .inr x=>.str x
noncomputable def zxX(k:List Key):D:=.tup (k.map zxZ)
noncomputable def zw2(ds:List (D×D)):D:=.dic ((.exc "",.non)::ds)
noncomputable def kvI(ps:List (Int×Int)):List (Key×V):=ps.map fun x=>(.inl x.1,.int x.2)
noncomputable def dsI(ps:List (Int×Int)):List (D×D):=ps.map fun x=>(.int x.1,.int x.2)
noncomputable def zaH(ps:List (Int×Int)):D:=.dic ((.non,.non)::dsI ps)
mutual
inductive Shd(cl:Cf)(w:Wd):V->D->Prop
 | non:Shd cl w .non .non
 | bl (b:Bool):Shd cl w (.bl b) (.bl b)
 | int (i:Int):Shd cl w (.int i) (.int i)
 | str (x:Str):Shd cl w (.str x) (.str x)
 | tup {a:Addr} {xs:List V} {ds:List D}:w.H a=some (.tup xs)->w.ow a=none->Shds cl w xs ds->Shd cl w (.ref a) (.tup ds)
 | lst {a:Addr} {xs:List V} {ds:List D}:w.H a=some (.lst xs)->w.ow a=none->Shds cl w xs ds->Shd cl w (.ref a) (.lst ds)
 | dicK {a:Addr} {kvs:List (Key×V)} {ds:List (D×D)}:w.H a=some (.dK kvs)->w.ow a=none->ShdK cl w kvs ds->Shd cl w (.ref a) (.dic ds)
 | dicT {a:Addr} {kvs:List (List Key×V)} {ds:List (D×D)}:w.H a=some (.dT kvs)->w.ow a=none->ShdT cl w kvs ds->Shd cl w (.ref a) (.dic ((.exc "",.non)::ds))
 | dicN {a:Addr} {ps:List (Int×Int)}:w.H a=some (.dK (kvI ps))->w.ow a=none->Shd cl w (.ref a) (.dic ((.non,.non)::dsI ps))
 | ref {n:Nat} {a:Addr}:w.mu[n]?=some a->Shd cl w (.ref a) (.ref n)
 | scr {a:Addr} {o:Obj} {l:List Int}:w.H a=some (.frz o (.lst (l.map V.int)))->w.ow a=none->Shd cl w (.ref a) (.scr l)
 | scrK {a:Addr} {l:List Int}:(∀H:Hp,SqL cl.K H a (l.map V.int))->Shd cl w (.ref a) (.scr l)
 | exc {a:Addr} {c:Str} {ob:Obj}:w.H a=some (.frz ob (.own a))->w.ow a=none->ob.cls=.ref (cl c)->Shd cl w (.ref a) (.exc c)
inductive Shds(cl:Cf)(w:Wd):List V->List D->Prop
 | nil:Shds cl w [] []
 | cons {v:V} {d:D} {vs:List V} {ds:List D}:Shd cl w v d->Shds cl w vs ds->Shds cl w (v::vs) (d::ds)
inductive ShdK(cl:Cf)(w:Wd):List (Key×V)->List (D×D)->Prop
 | nil:ShdK cl w [] []
 | consI {i:Int} {v:V} {d:D} {vs:List (Key×V)} {ds:List (D×D)}:Shd cl w v d->ShdK cl w vs ds->ShdK cl w ((.inl i,v)::vs) ((.int i,d)::ds)
 | consS {x:Str} {v:V} {d:D} {vs:List (Key×V)} {ds:List (D×D)}:Shd cl w v d->ShdK cl w vs ds->ShdK cl w ((.inr x,v)::vs) ((.str x,d)::ds)
inductive ShdT(cl:Cf)(w:Wd):List (List Key×V)->List (D×D)->Prop
 | nil:ShdT cl w [] []
 | cons {k:List Key} {v:V} {d:D} {vs:List (List Key×V)} {ds:List (D×D)}:Shd cl w v d->ShdT cl w vs ds->ShdT cl w ((k,v)::vs) ((zxX k,d)::ds)
end
structure Fut(w w':Wd):Prop where
 keep:∀a o,w.H a=some o->w.ow a=none->w'.H a=some o/\w'.ow a=none
 mu:∀(n:Nat) (a:Addr),w.mu[n]?=some a->w'.mu[n]?=some a
def Fut.refl(w:Wd):Fut w w:=⟨fun _ _ h k=>⟨h,k⟩,fun _ _ h=>h⟩
def Fut.trans{w w1 w2:Wd}(a:Fut w w1)(b:Fut w1 w2):Fut w w2:=⟨fun c o h k=>b.keep c o (a.keep c o h k).1 (a.keep c o h k).2,fun n c h=>b.mu n c (a.mu n c h)⟩
mutual
theorem Shd.up{cl:Cf}{w w':Wd}(f:Fut w w'):∀{v:V} {d:D},Shd cl w v d->Shd cl w' v d
 | _,_,.non=>.non
 | _,_,.bl b=>.bl b
 | _,_,.int i=>.int i
 | _,_,.str x=>.str x
 | _,_,.tup e k r=>.tup (f.keep _ _ e k).1 (f.keep _ _ e k).2 (Shds.up f r)
 | _,_,.lst e k r=>.lst (f.keep _ _ e k).1 (f.keep _ _ e k).2 (Shds.up f r)
 | _,_,.dicK e k r=>.dicK (f.keep _ _ e k).1 (f.keep _ _ e k).2 (ShdK.up f r)
 | _,_,.dicT e k r=>.dicT (f.keep _ _ e k).1 (f.keep _ _ e k).2 (ShdT.up f r)
 | _,_,.dicN e k=>.dicN (f.keep _ _ e k).1 (f.keep _ _ e k).2
 | _,_,.ref e=>.ref (f.mu _ _ e)
 | _,_,.scr e k=>.scr (f.keep _ _ e k).1 (f.keep _ _ e k).2
 | _,_,.scrK h=>.scrK h
 | _,_,.exc e k h=>.exc (f.keep _ _ e k).1 (f.keep _ _ e k).2 h
theorem Shds.up{cl:Cf}{w w':Wd}(f:Fut w w'):∀{vs:List V} {ds:List D},Shds cl w vs ds->Shds cl w' vs ds
 | _,_,.nil=>.nil
 | _,_,.cons r t=>.cons (Shd.up f r) (Shds.up f t)
theorem ShdK.up{cl:Cf}{w w':Wd}(f:Fut w w'):∀{vs:List (Key×V)} {ds:List (D×D)},ShdK cl w vs ds->ShdK cl w' vs ds
 | _,_,.nil=>.nil
 | _,_,.consI r t=>.consI (Shd.up f r) (ShdK.up f t)
 | _,_,.consS r t=>.consS (Shd.up f r) (ShdK.up f t)
theorem ShdT.up{cl:Cf}{w w':Wd}(f:Fut w w'):∀{vs:List (List Key×V)} {ds:List (D×D)},ShdT cl w vs ds->ShdT cl w' vs ds
 | _,_,.nil=>.nil
 | _,_,.cons r t=>.cons (Shd.up f r) (ShdT.up f t)
end
section
variable{cl:Cf}{w:Wd}
theorem Shds.length:∀{vs:List V} {ds:List D},Shds cl w vs ds->vs.length=ds.length
 | _,_,.nil=>rfl
 | _,_,.cons _ t=>by rw [yap,yap,Shds.length t]
theorem Shds.get:∀{vs:List V} {ds:List D},Shds cl w vs ds->∀{i:Nat} {v:V},vs[i]?=some v->∃d,ds[i]?=some d/\Shd cl w v d
 | _,_,.nil,i,v,e=>by simp at e
 | _,_,.cons r _,0,v,e=>by simp at e;subst e;exact ⟨_,rfl,r⟩
 | _,_,.cons _ t,i+1,v,e=>by
  obtain ⟨d,h1,h2⟩:=Shds.get t (i:=i) (v:=v) (by simpa using e);exact ⟨d,by simpa using h1,h2⟩
theorem Shds.at:∀{vs:List V} {ds:List D},Shds cl w vs ds->∀{i:Nat} {d:D},ds[i]?=some d->∃v,vs[i]?=some v/\Shd cl w v d
 | _,_,.nil,i,v,e=>by simp at e
 | _,_,.cons r _,0,v,e=>by simp at e;subst e;exact ⟨_,rfl,r⟩
 | _,_,.cons _ t,i+1,v,e=>by
  obtain ⟨d,h1,h2⟩:=Shds.at t (i:=i) (d:=v) (by simpa using e);exact ⟨d,by simpa using h1,h2⟩
theorem Shds.append:∀{vs ws:List V} {ds es:List D},Shds cl w vs ds->Shds cl w ws es->Shds cl w (vs++ws) (ds++es)
 | _,_,_,_,.nil,s=>s
 | _,_,_,_,.cons r t,s=>.cons r (Shds.append t s)
theorem Shds.take:∀{vs:List V} {ds:List D} (n:Nat),Shds cl w vs ds->Shds cl w (vs.take n) (ds.take n)
 | _,_,0,_=>.nil
 | _,_,_+1,.nil=>.nil
 | _,_,n+1,.cons r t=>.cons r (Shds.take n t)
theorem Shds.drop:∀{vs:List V} {ds:List D} (n:Nat),Shds cl w vs ds->Shds cl w (vs.drop n) (ds.drop n)
 | _,_,0,s=>s
 | _,_,_+1,.nil=>.nil
 | _,_,n+1,.cons _ t=>Shds.drop n t
theorem Shds.set{v:V}{d:D}(r:Shd cl w v d):∀{vs:List V} {ds:List D} (i:Nat),Shds cl w vs ds->Shds cl w (vs.set i v) (ds.set i d)
 | _,_,_,.nil=>.nil
 | _,_,0,.cons _ t=>.cons r t
 | _,_,i+1,.cons q t=>.cons q (Shds.set r i t)
theorem Shds.rev:∀{vs:List V} {ds:List D},Shds cl w vs ds->Shds cl w vs.reverse ds.reverse
 | _,_,.nil=>.nil
 | _,_,.cons r t=>by
  rw [ycH,ycH];exact Shds.append (Shds.rev t) (.cons r .nil)
theorem Shds.flat{vs:List V}{ds:List D}(h:Shds cl w vs ds):∀n:Nat,Shds cl w (List.replicate n vs).flatten (List.replicate n ds).flatten
 | 0=>.nil
 | n+1=>by
  rw [ybl,ybl,ybM,ybM];exact Shds.append h (Shds.flat h n)
end
inductive Top(cl:Cf)(w:Wd):HO->D->Prop
 | lst {xs:List V} {ds:List D}:Shds cl w xs ds->Top cl w (.lst xs) (.lst ds)
 | dicK {kvs:List (Key×V)} {ds:List (D×D)}:ShdK cl w kvs ds->Top cl w (.dK kvs) (.dic ds)
 | dicT {kvs:List (List Key×V)} {ds:List (D×D)}:ShdT cl w kvs ds->Top cl w (.dT kvs) (.dic ((.exc "",.non)::ds))
 | dicN {ps:List (Int×Int)}:Top cl w (.dK (kvI ps)) (.dic ((.non,.non)::dsI ps))
theorem Top.up{cl:Cf}{w w':Wd}(f:Fut w w'){o:HO}{d:D}:Top cl w o d->Top cl w' o d
 | .lst h=>.lst (h.up f)
 | .dicK h=>.dicK (h.up f)
 | .dicT h=>.dicT (h.up f)
 | .dicN=>.dicN
noncomputable def zif(cl:Cf)(w:Wd)(r:Root):Bool->V->D->Prop
 | false,v,d=>Shd cl w v d
 | true,v,d=>∃a o,v=.ref a/\w.ow a=some r/\w.H a=some o/\Top cl w o d
theorem zif.keep{cl:Cf}{w w':Wd}(f:Fut w w'){r:Root}(k:∀a o,w.H a=some o->w.ow a=some r->w'.H a=some o/\w'.ow a=some r):∀{b:Bool} {v:V} {d:D},zif cl w r b v d->zif cl w' r b v d
 | false,_,_,h=>Shd.up f h
 | true,_,_,⟨a,o,e,h1,h2,t⟩=>⟨a,o,e,(k a o h2 h1).2,(k a o h2 h1).1,t.up f⟩
noncomputable def oDn:Option Int->D | none=>.non | some i=>.int i
noncomputable def nkD(k:NK):D:=.tup [.int k.1,.tup (k.2.map oDn)]
inductive ShdN(cl:Cf)(w:Wd):List (NK×V)->List (D×D)->Prop
 | nil:ShdN cl w [] []
 | cons {k:NK} {v:V} {d:D} {m:List (NK×V)} {ds:List (D×D)}:Shd cl w v d->ShdN cl w m ds->ShdN cl w ((k,v)::m) ((nkD k,d)::ds)
theorem ShdN.up{cl:Cf}{w w':Wd}(f:Fut w w'):∀{m:List (NK×V)} {ds:List (D×D)},ShdN cl w m ds->ShdN cl w' m ds
 | _,_,.nil=>.nil
 | _,_,.cons r t=>.cons (r.up f) (ShdN.up f t)
noncomputable def zla(w:Wd)(kb:Addr)(k:NK):Prop:=∃b,(w.H kb=some (.tup [.int k.1,.ref b])/\w.ow kb=none)/\w.H b=some (.tup (k.2.map oV))/\w.ow b=none
def zla.up{w w':Wd}(f:Fut w w'){kb:Addr}{k:NK}(h:zla w kb k):zla w' kb k:=by
 obtain ⟨b,h1,h2⟩:=h;exact ⟨b,f.keep _ _ h1.1 h1.2,f.keep _ _ h2.1 h2.2⟩
def zla.at{w:Wd}{kb:Addr}{k:NK}(h:zla w kb k):zhu w.H kb k:=by
 obtain ⟨b,h1,h2⟩:=h;exact ⟨b,h1.1,h2.1⟩
noncomputable def zii(w:Wd):List (NK×Addr×Value)->List (NK×V)->Prop:=Paired fun (x:NK×Addr×Value) (p:NK×V)=>x.1=p.1/\zla w x.2.1 x.1/\zaE p.2 x.2.2
theorem zii.up{w w':Wd}(f:Fut w w'):∀{xs:List (NK×Addr×Value)} {m:List (NK×V)},zii w xs m->zii w' xs m
 | _,_,.nil=>.nil
 | _,_,.cons h t=>.cons ⟨h.1,h.2.1.up f,h.2.2⟩ (zii.up f t)
theorem zii.ents{w:Wd}:∀{xs:List (NK×Addr×Value)} {m:List (NK×V)},zii w xs m->zmN w.H xs m
 | _,_,.nil=>.nil
 | _,_,.cons h t=>.cons ⟨h.1,h.2.1.at,h.2.2⟩ (zii.ents t)
theorem zii.snoc{w:Wd}{x:NK×Addr×Value}{p:NK×V}(h:x.1=p.1/\zla w x.2.1 x.1/\zaE p.2 x.2.2):∀{xs:List (NK×Addr×Value)} {m:List (NK×V)},zii w xs m->zii w (xs++[x]) (m++[p])
 | _,_,.nil=>.cons h .nil
 | _,_,.cons h' t=>.cons h' (zii.snoc h t)
theorem ShdN.snoc{cl:Cf}{w:Wd}{k:NK}{v:V}{d:D}(h:Shd cl w v d):∀{m:List (NK×V)} {ds:List (D×D)},ShdN cl w m ds->ShdN cl w (m++[(k,v)]) (ds++[(nkD k,d)])
 | _,_,.nil=>.cons h .nil
 | _,_,.cons r t=>.cons r (ShdN.snoc h t)
noncomputable def zyP(cl:Cf)(w:Wd)(r:Root)(v:V)(d:D):Prop:=∃a xs m ds,v=.ref a/\w.ow a=some r/\w.H a=some (.ext (DN cl.P cl.wo a xs))/\zii w xs m/\ShdN cl w m ds/\d=.dic ds
noncomputable def zhv(cl:Cf)(w:Wd)(r:Root)(own:Bool)(v:V)(d:D):Prop:=(own=false/\Shd cl w v d)\/(own=true/\zyP cl w r v d)
def zhv.keep{cl:Cf}{w w':Wd}(f:Fut w w'){r:Root}(k:∀a o,w.H a=some o->w.ow a=some r->w'.H a=some o/\w'.ow a=some r){b:Bool}{v:V}{d:D}(h:zhv cl w r b v d):zhv cl w' r b v d:=by
 rcases h with ⟨e,h⟩ | ⟨e,a,xs,m,ds,e1,e2,e3,e4,e5,e6⟩
 ·exact .inl ⟨e,h.up f⟩
 ·exact .inr ⟨e,a,xs,m,ds,e1,(k a _ e3 e2).2,(k a _ e3 e2).1,e4.up f,e5.up f,e6⟩
structure Ob where
 cls:Str
 fs:List (Str×Bool×D)
noncomputable abbrev Sto:=List Ob
noncomputable def zcG(cl:Cf)(w:Wd)(n:Nat):List (Str×V)->List (Str×Bool×D)->Prop:=Paired fun p q=>p.1=q.1/\zhv cl w (.fld n q.1) q.2.1 p.2 q.2.2
noncomputable def zsp(cl:Cf)(w:Wd)(n:Nat)(a:Addr)(ob:Ob):Prop:=w.ow a=some (.obj n)/\∃dx fs,w.H a=some (.ins (cl ob.cls) dx fs)/\zcG cl w n fs ob.fs
noncomputable def zrf(n:Nat):Option Root->Prop | some (.obj m)=>m=n | some (.fld m _)=>m=n | _=>False
theorem zcG.keep{cl:Cf}{w w':Wd}(f:Fut w w'){n:Nat}(k:∀a o,w.H a=some o->zrf n (w.ow a)->w'.H a=some o/\w'.ow a=w.ow a):∀{fs:List (Str×V)} {gs:List (Str×Bool×D)},zcG cl w n fs gs->zcG cl w' n fs gs
 | _,_,.nil=>.nil
 | _,_,.cons ⟨e,h⟩ t=>.cons ⟨e,h.keep f fun a o ha hr=>by
   have:=k a o ha (by rw [hr];rfl)
   exact ⟨this.1,this.2.trans hr⟩⟩ (zcG.keep f k t)
theorem zsp.keep{cl:Cf}{w w':Wd}(f:Fut w w'){n:Nat}{a:Addr}{ob:Ob}(k:∀a o,w.H a=some o->zrf n (w.ow a)->w'.H a=some o/\w'.ow a=w.ow a)(h:zsp cl w n a ob):zsp cl w' n a ob:=by
 obtain ⟨h1,dx,fs,h2,h3⟩:=h;have:=k a _ h2 (by rw [h1];rfl);exact ⟨this.2.trans h1,dx,fs,this.1,h3.keep f k⟩
structure Base where
 Fr:Hp
 fw:Ow
structure World'(cl:Cf)(B:Base)(w:Wd)(S:Sto):Prop where
 fr:∀a o,B.Fr a=some o->w.H a=some o/\w.ow a=B.fw a
 own:∀a r,w.ow a=some r->r=.far\/B.Fr a=none
 len:w.mu.length=S.length
 obj:∀(n:Nat) (ob:Ob),S[n]?=some ob->∃a,w.mu[n]?=some a/\zsp cl w n a ob
noncomputable abbrev Env:=List (Option (Bool×D))
structure Rel(cl:Cf)(B:Base)(σ:St)(w:Wd)(ρ:Env)(S:Sto):Prop where
 wd:World' cl B w S
 len:σ.length=ρ.length
 slots:∀(i:Nat) (o:Bool) (d:D),ρ[i]?=some (some (o,d))->∃v,σ[i]?=some (some v)/\zif cl w (.slot i) o v d
structure Grow(w w':Wd):Prop where
 keep:∀a o,w.H a=some o->w'.H a=some o/\w'.ow a=w.ow a
 new:∀a r,w'.ow a=some r->w.H a=none->w.ow a=some r\/r=.far
 mu:w'.mu=w.mu
def Grow.refl(w:Wd):Grow w w:=⟨fun _ _ h=>⟨h,rfl⟩,fun _ _ h _=>.inl h,rfl⟩
def Grow.fut{w w':Wd}(g:Grow w w'):Fut w w':=⟨fun a o h k=>⟨(g.keep a o h).1,(g.keep a o h).2.trans k⟩,fun n a h=>by rw [g.mu];exact h⟩
def World'.grow{cl:Cf}{B:Base}{w w':Wd}{S:Sto}(W:World' cl B w S)(g:Grow w w'):World' cl B w' S where
 fr:=fun a o h=>by
  obtain ⟨h1,h2⟩:=W.fr a o h;exact ⟨(g.keep a o h1).1,(g.keep a o h1).2.trans h2⟩
 own:=fun a r h=>by
  cases e:w.H a with
  | none=>exact (g.new a r h e).elim (W.own a r) .inl
  | some o=>exact W.own a r (by rw [<-(g.keep a o e).2];exact h)
 len:=by rw [g.mu];exact W.len
 obj:=fun n ob h=>by
  obtain ⟨a,e,x⟩:=W.obj n ob h;exact ⟨a,by rw [g.mu];exact e,x.keep g.fut fun a o ha _=>g.keep a o ha⟩
theorem Rel.grow{cl:Cf}{B:Base}{σ:St}{w w':Wd}{ρ:Env}{S:Sto}(R:Rel cl B σ w ρ S)(g:Grow w w'):Rel cl B σ w' ρ S where
 wd:=R.wd.grow g
 len:=R.len
 slots:=fun i o d h=>by
  obtain ⟨v,e,x⟩:=R.slots i o d h;exact ⟨v,e,x.keep g.fut fun a o ha hr=>⟨(g.keep a o ha).1,(g.keep a o ha).2.trans hr⟩⟩
noncomputable def Wd.add(w:Wd)(p:Addr)(o:HO):Wd:=⟨upd w.H p o,fun a=>if a=p then none else w.ow a,w.mu⟩
def zan{w:Wd}{p:Addr}(h:w.H p=none)(o:HO):Grow w (w.add p o) where
 keep:=fun a u ha=>by
  have n:a≠p:=zai ha h;refine ⟨?_,?_⟩
  ·show upd w.H p o a=_;rw [zag n];exact ha
  ·show (if a=p then none else w.ow a)=_;rw [if_neg n]
 new:=fun a r h1 h2=>by
  have h1':(if a=p then none else w.ow a)=some r:=h1;split at h1'
  ·cases h1'
  ·exact .inl h1'
 mu:=rfl
def ze7{w:Wd}{p:Addr}{o:HO}:(w.add p o).ow p=none:=if_pos rfl
def ziX{w:Wd}{p:Addr}{o:HO}:(w.add p o).H p=some o:=zam
def Shd.newT{cl:Cf}{w:Wd}{p:Addr}{xs:List V}{ds:List D}(h:w.H p=none)(r:Shds cl w xs ds):Shd cl (w.add p (.tup xs)) (.ref p) (.tup ds):=.tup ziX ze7 (r.up (zan h _).fut)
def Shd.newL{cl:Cf}{w:Wd}{p:Addr}{xs:List V}{ds:List D}(h:w.H p=none)(r:Shds cl w xs ds):Shd cl (w.add p (.lst xs)) (.ref p) (.lst ds):=.lst ziX ze7 (r.up (zan h _).fut)
def Shd.newO{cl:Cf}{w:Wd}{p:Addr}{o:HO}{d:D}(h:w.H p=none)(r:Top cl w o d):Shd cl (w.add p o) (.ref p) d:=by
 have g:=(zan h o).fut
 cases r with
 | lst r=>exact .lst ziX ze7 (r.up g)
 | dicK r=>exact .dicK ziX ze7 (r.up g)
 | dicT r=>exact .dicT ziX ze7 (r.up g)
 | dicN=>exact .dicN ziX ze7
inductive Out(α:Type) where
 | ok (a:α) (S:Sto) | exc (c:Str) (S:Sto) | bad
noncomputable abbrev Fe:=Env->Sto->Out D
inductive Fo where
 | nx (ρ:Env) (S:Sto) | rt (d:D) (S:Sto) | bk (ρ:Env) (S:Sto) | ct (ρ:Env) (S:Sto) | ex (c:Str) (ρ:Env) (S:Sto) | bad
noncomputable abbrev Fs:=Env->Sto->Fo
noncomputable def tE(cl:Cf)(E:St->XK)(f:Fe):TE:=fun σ H Q=>∃B w ρ S,w.H=H/\Rel cl B σ w ρ S/\match f ρ S with
 | .ok d S'=>∀v w',Rel cl B σ w' ρ S'->Fut w w'->Shd cl w' v d->Q v w'.H
 | .exc c S'=>∀w',Rel cl B σ w' ρ S'->Fut w w'->E σ (.ref (cl c)) none w'.H
 | .bad=>False
noncomputable def tN(cl:Cf)(E:St->XK)(f:Fe):TE:=fun σ H Q=>∃B w ρ S,w.H=H/\Rel cl B σ w ρ S/\match f ρ S with
 | .ok d S'=>∀p o w',Rel cl B σ w' ρ S'->Fut w w'->w'.H p=none->Top cl w' o d->Q (.ref p) (upd w'.H p o)
 | .exc c S'=>∀w',Rel cl B σ w' ρ S'->Fut w w'->E σ (.ref (cl c)) none w'.H
 | .bad=>False
noncomputable def Hd(cl:Cf)(σ:St)(ρ:Env)(w:Wd)(v:V)(d:D):Prop:=Shd cl w v d\/∃i:Nat,ρ[i]?=some (some (true,d))/\σ[i]?=some (some v)
noncomputable def tH(cl:Cf)(E:St->XK)(f:Fe):TE:=fun σ H Q=>∃B w ρ S,w.H=H/\Rel cl B σ w ρ S/\match f ρ S with
 | .ok d S'=>∀v w',Rel cl B σ w' ρ S'->Fut w w'->Hd cl σ ρ w' v d->Q v w'.H
 | .exc c S'=>∀w',Rel cl B σ w' ρ S'->Fut w w'->E σ (.ref (cl c)) none w'.H
 | .bad=>False
inductive TopV(cl:Cf)(w:Wd):V->D->Prop
 | sh {v:V} {d:D}:Shd cl w v d->TopV cl w v d
 | ow {a:Addr} {o:HO} {d:D}:w.H a=some o->Top cl w o d->TopV cl w (.ref a) d
def Hd.top{cl:Cf}{B:Base}{σ:St}{ρ:Env}{w:Wd}{S:Sto}{v:V}{d:D}(h:Hd cl σ ρ w v d)(R:Rel cl B σ w ρ S):TopV cl w v d:=by
 rcases h with h | ⟨i,h1,h2⟩
 ·exact .sh h
 ·obtain ⟨v',e,a,o,rfl,_,h3,t⟩:=R.slots i true d h1;rw [h2] at e;cases e;exact .ow h3 t
theorem Hd.up{cl:Cf}{σ:St}{ρ:Env}{w w':Wd}{v:V}{d:D}(f:Fut w w')(h:Hd cl σ ρ w v d):Hd cl σ ρ w' v d:=by
 rcases h with h | h
 ·exact .inl (h.up f)
 ·exact .inr h
def PE.imp{X:Cx}{e:Expr}{t t':TE}(h:PE X e t)(i:∀σ H Q,t' σ H Q->t σ H Q):PE X e t':=fun pins s σ H Q I q=>h pins s σ H Q I (i _ _ _ q)
def ztk{cl:Cf}{E:St->XK}{f:Fe}{σ:St}{H:Hp}{Q:VK}(h:tE cl E f σ H Q):tN cl E f σ H Q:=by
 obtain ⟨B,w,ρ,S,e,R,h⟩:=h;refine ⟨B,w,ρ,S,e,R,?_⟩
 cases hf:f ρ S with
 | ok d S' =>
  rw [hf] at h;intro p o w' R' F' hp t;exact h (.ref p) (w'.add p o) (R'.grow (zan hp o)) (F'.trans (zan hp o).fut) (Shd.newO hp t)
 | exc c S'=>rwa [hf] at h
 | bad=>rwa [hf] at h
def ztj{cl:Cf}{E:St->XK}{f:Fe}{σ:St}{H:Hp}{Q:VK}(h:tH cl E f σ H Q):tE cl E f σ H Q:=by
 obtain ⟨B,w,ρ,S,e,R,h⟩:=h;refine ⟨B,w,ρ,S,e,R,?_⟩
 cases hf:f ρ S with
 | ok d S' =>
  rw [hf] at h;intro v w' R' F' t;exact h v w' R' F' (.inl t)
 | exc c S'=>rwa [hf] at h
 | bad=>rwa [hf] at h
end S2
namespace S2
open PySem PySem.Spec PyProof.Rows L2
noncomputable def Out.bind{α β:Type}(o:Out α)(k:α->Sto->Out β):Out β:=match o with | .ok a S=>k a S | .exc c S=>.exc c S | .bad=>.bad
noncomputable def Out.of{α:Type}(o:Option α)(S:Sto):Out α:=match o with | some a=>.ok a S | none=>.bad
@[simp] def Out.bind_ok{α β:Type}(a:α)(S:Sto)(k:α->Sto->Out β):(Out.ok a S).bind k=k a S:=rfl
@[simp] def Out.bind_exc{α β:Type}(c:Str)(S:Sto)(k:α->Sto->Out β):(Out.exc c S:Out α).bind k=.exc c S:=rfl
@[simp] def Out.bind_bad{α β:Type}(k:α->Sto->Out β):(Out.bad:Out α).bind k=.bad:=rfl
@[simp] def Out.of_some{α:Type}(a:α)(S:Sto):Out.of (some a) S=.ok a S:=rfl
noncomputable def zak(i:Nat):Fe:=fun ρ S=>match ρ[i]? with | some (some (false,d))=>.ok d S | _=>.bad
noncomputable def zap(i:Nat):Fe:=fun ρ S=>match ρ[i]? with | some (some (_,d))=>.ok d S | _=>.bad
noncomputable def zas(d:D):Fe:=fun _ S=>.ok d S
noncomputable def eUn(g:D->Option D)(f:Fe):Fe:=fun ρ S=>(f ρ S).bind fun a S1=>Out.of (g a) S1
noncomputable def zaj(g:D->D->Option D)(f h:Fe):Fe:=fun ρ S=>(f ρ S).bind fun a S1=>(h ρ S1).bind fun b S2=>Out.of (g a b) S2
noncomputable def isB:D->Option Bool | .bl b=>some b | _=>none
noncomputable def eIf(c f h:Fe):Fe:=fun ρ S=>(c ρ S).bind fun d S1=>match isB d with | some true=>f ρ S1 | some false=>h ρ S1 | none=>.bad
noncomputable def zkG(f h:Fe):Fe:=fun ρ S=>(f ρ S).bind fun d S1=>match isB d with | some true=>h ρ S1 | some false=>.ok (.bl false) S1 | none=>.bad
noncomputable def eOr(f h:Fe):Fe:=fun ρ S=>(f ρ S).bind fun d S1=>match isB d with | some true=>.ok (.bl true) S1 | some false=>h ρ S1 | none=>.bad
noncomputable def zlP:D->Option D | .bl b=>some (.bl (!b)) | _=>none
noncomputable def zah:List Fe->Env->Sto->Out (List D)
 | [],_,S=>.ok [] S
 | f::fs,ρ,S=>(f ρ S).bind fun d S1=>(zah fs ρ S1).bind fun ds S2=>.ok (d::ds) S2
noncomputable def zaN(n:Nat):Bool:=decide (n<=100000)
noncomputable def zgO(fs:List Fe):Fe:=fun ρ S=>(zah fs ρ S).bind fun ds S1=>if zaN ds.length then .ok (.tup ds) S1 else .bad
noncomputable def ziL(fs:List Fe):Fe:=fun ρ S=>(zah fs ρ S).bind fun ds S1=>if zaN ds.length then .ok (.lst ds) S1 else .bad
noncomputable def zaG(g:List D->Option D)(fs:List Fe):Fe:=fun ρ S=>(zah fs ρ S).bind fun ds S1=>Out.of (g ds) S1
def zaM{n:Nat}(h:zaN n=true):n<=sizeLine:=yaq (yaj h) (by decide)
noncomputable def zbd:Expr->Bool | .Starred _ _=>false | _=>true
def zaB{e:Expr}{es:List Expr}{env:PySem.Env}(h:zbd e=true):starEach (e::es) env=(false,eval e env)::starEach es env:=by
 cases e<;>first | rfl | cases h
theorem zbz{pos:Pos}{env:PySem.Env}:∀{es:List Expr},es.all zbd=true->(backTo pos (starEach es env)).any (·.1)=false
 | [],_=>rfl
 | e::es,h=>by
  rw [ybI,yab] at h;rw [zaB h.1];show (false||(backTo pos (starEach es env)).any (·.1))=false;rw [zbz h.2];rfl
theorem zge{pos:Pos}{env:PySem.Env}:∀{es:List Expr},es.all zbd=true->(backTo pos (starEach es env)).all (fun x=>!x.1)=true
 | [],_=>rfl
 | e::es,h=>by
  rw [ybI,yab] at h;rw [zaB h.1];show (true&&(backTo pos (starEach es env)).all (fun x=>!x.1))=true;rw [zge h.2];rfl
def zev{pos:Pos}{env:PySem.Env}{es:List Expr}(h:es.all zbd=true)(hl:es.length<30):((backTo pos (starEach es env)).all (fun x=>!x.1)&&(backToKw pos (keywordEach [] env)).all (fun x=>x.1.isSome)
   && decide (es.length+([]:List Keyword).length+(if ([]:List Keyword).isEmpty then 0 else 1)<30))=true:=by
 rw [zge h];show (true&&true&&decide (es.length+0+0<30))=true;simpa using hl
noncomputable def Hds(cl:Cf)(σ:St)(ρ:Env)(w:Wd):List V->List D->Prop:=Paired (Hd cl σ ρ w)
noncomputable def zk4(cl:Cf)(w:Wd):List V->List D->Prop:=Paired (TopV cl w)
theorem Hds.top{cl:Cf}{B:Base}{σ:St}{ρ:Env}{w:Wd}{S:Sto}(R:Rel cl B σ w ρ S):∀{vs:List V} {ds:List D},Hds cl σ ρ w vs ds->zk4 cl w vs ds
 | _,_,.nil=>.nil
 | _,_,.cons h t=>.cons (h.top R) (Hds.top R t)
noncomputable def tAs(cl:Cf)(E:St->XK)(fs:List Fe):TA:=fun σ H Q=>∃B w ρ S,w.H=H/\Rel cl B σ w ρ S/\match zah fs ρ S with
 | .ok ds S'=>∀vs w',Rel cl B σ w' ρ S'->Fut w w'->Shds cl w' vs ds->Q vs w'.H
 | .exc c S'=>∀w',Rel cl B σ w' ρ S'->Fut w w'->E σ (.ref (cl c)) none w'.H
 | .bad=>False
noncomputable def tHs(cl:Cf)(E:St->XK)(fs:List Fe):TA:=fun σ H Q=>∃B w ρ S,w.H=H/\Rel cl B σ w ρ S/\match zah fs ρ S with
 | .ok ds S'=>∀vs w',Rel cl B σ w' ρ S'->Fut w w'->Hds cl σ ρ w' vs ds->Q vs w'.H
 | .exc c S'=>∀w',Rel cl B σ w' ρ S'->Fut w w'->E σ (.ref (cl c)) none w'.H
 | .bad=>False
def PA.imp{X:Cx}{es:List Expr}{t t':TA}(h:PA X es t)(i:∀σ H Q,t' σ H Q->t σ H Q):PA X es t':=fun pos pins s σ H Q I q=>h pos pins s σ H Q I (i _ _ _ q)
def PT.imp{X:Cx}{e:Expr}{t t':TT}(h:PT X e t)(i:∀σ H Q,t' σ H Q->t σ H Q):PT X e t':=fun pins s σ H Q I q=>h pins s σ H Q I (i _ _ _ q)
section
variable{X:Cx}{cl:Cf}{E:St->XK}{a b c e:Expr}{f h g:Fe}{pos:Pos}
def zqn{i:Nat}{x:Str}(hN:X.N[i]?=some x)(hv:Vis X.env.scope x)(hd:(x == ("__debug__":Str))=false)(hcd:(x == ("__classdict__":Str))=false):PE X (.Name x pos) (tE cl E (zak i)):=by
 refine PE.imp (zbl hN hv hd hcd) ?_;rintro σ H Q ⟨B,w,ρ,S,rfl,R,q⟩;unfold zak at q;split at q
 ·rename_i o d S' hm;split at hm
  ·rename_i d' he;cases hm;obtain ⟨v,e,r⟩:=R.slots i false d he;exact ⟨v,e,q v w R (Fut.refl _) r⟩
  ·cases hm
 ·rename_i hm;split at hm<;>cases hm
 ·exact q.elim
def zqA{i:Nat}{x:Str}(hN:X.N[i]?=some x)(hv:Vis X.env.scope x)(hd:(x == ("__debug__":Str))=false)(hcd:(x == ("__classdict__":Str))=false):PE X (.Name x pos) (tH cl E (zap i)):=by
 refine PE.imp (zbl hN hv hd hcd) ?_;rintro σ H Q ⟨B,w,ρ,S,rfl,R,q⟩;unfold zap at q;split at q
 ·rename_i o d S' hm;split at hm
  ·rename_i b d' he;cases hm;obtain ⟨v,e,r⟩:=R.slots i b d he;refine ⟨v,e,q v w R (Fut.refl _) ?_⟩
   cases b with
   | false=>exact .inl r
   | true=>exact .inr ⟨i,he,e⟩
  ·cases hm
 ·rename_i hm;split at hm<;>cases hm
 ·exact q.elim
def zjs{v:V}{d:D}(h:PE X e (tC v))(hd:∀w,Shd cl w v d):PE X e (tE cl E (zas d)):=by
 refine PE.imp h ?_;rintro σ H Q ⟨B,w,ρ,S,rfl,R,q⟩;exact q v w R (Fut.refl _) (hd w)
def zjt(h:PE X e (tE cl E f)):PE X e (tH cl E f):=PE.imp h fun _ _ _=>ztj
def zbX(h:PE X e (tN cl E f)):PE X e (tE cl E f):=PE.imp h fun _ _ _=>ztk
noncomputable def OpD(X:Cx)(cl:Cf)(op:Value->Value->Sem Value)(g:D->D->Option D):Prop:=OpR X op fun x y H Q=>∃w d e r,w.H=H/\TopV cl w x d/\TopV cl w y e/\g d e=some r/\∀v w',Grow w w'->Shd cl w' v r->Q v w'.H
noncomputable def UnD(X:Cx)(cl:Cf)(op:Value->Sem Value)(g:D->Option D):Prop:=UnR X op fun x H Q=>∃w d r,w.H=H/\TopV cl w x d/\g d=some r/\∀v w',Grow w w'->Shd cl w' v r->Q v w'.H
noncomputable def ziY(X:Cx)(cl:Cf)(fv:Value)(g:List D->Option D):Prop:=zc2 X fv fun xs H Q=>∃w ds r,w.H=H/\zk4 cl w xs ds/\g ds=some r/\∀v w',Grow w w'->Shd cl w' v r->Q v w'.H
noncomputable def zu1(X:Cx)(cl:Cf)(fv:Value)(g:List D->Option D):Prop:=zc2 X fv fun xs H Q=>∃w ds r,w.H=H/\zk4 cl w xs ds/\g ds=some r/\∀p o w',Grow w w'->w'.H p=none->Top cl w' o r->Q (.ref p) (upd w'.H p o)
noncomputable def IxD(X:Cx)(cl:Cf)(g:D->D->Option D):Prop:=IxR X fun x y H Q=>∃w d e r,w.H=H/\TopV cl w x d/\TopV cl w y e/\g d e=some r/\∀v w',Grow w w'->Shd cl w' v r->Q v w'.H
def two{gg:D->D->Option D}{r2:R2}(hr:∀x y H Q,(∃w d e r,w.H=H/\TopV cl w x d/\TopV cl w y e/\gg d e=some r/\∀v w',Grow w w'->Shd cl w' v r->Q v w'.H)->r2 x y H Q)(σ:St)(H:Hp)(Q:VK)(q:tE cl E (zaj gg f h) σ H Q):tOp r2 (tH cl E f) (tH cl E h) σ H Q:=by
 obtain ⟨B,w,ρ,S,rfl,R,q⟩:=q;refine ⟨B,w,ρ,S,rfl,R,?_⟩;unfold zaj at q
 cases hf:f ρ S with
 | bad=>rwa [hf] at q
 | exc c S1=>rwa [hf] at q
 | ok d S1 =>
  rw [hf] at q;intro v w1 R1 F1 h1;refine ⟨B,w1,ρ,S1,rfl,R1,?_⟩;dsimp only [Out.bind] at q
  cases hh:h ρ S1 with
  | bad=>rwa [hh] at q
  | exc c S2=>rw [hh] at q;exact fun w2 R2 F2=>q w2 R2 (F1.trans F2)
  | ok e S2 =>
   rw [hh] at q;intro y w2 R2 F2 h2;dsimp only at q
   cases hg:gg d e with
   | none=>rw [hg] at q;exact q.elim
   | some r =>
    rw [hg] at q;exact hr _ _ _ _ ⟨w2,d,e,r,rfl,(h1.up F2).top R2,h2.top R2,hg,fun v' w' gr sh=>q v' w' (R2.grow gr) (F1.trans (F2.trans gr.fut)) sh⟩
def zmZ{op:Operator}{gg:D->D->Option D}(ho:OpD X cl (binaryOp op) gg)(ha:PE X a (tH cl E f))(hb:PE X b (tH cl E h)):PE X (.BinOp a op b pos) (tE cl E (zaj gg f h)) :=
 PE.imp (zq0 ho ha hb) (two fun _ _ _ _ z=>z)
def ztC{gg:D->D->Option D}(ho:IxD X cl gg)(ha:PE X a (tH cl E f))(hb:PE X b (tH cl E h))(hs:zfQ b):PE X (.Subscript a b pos) (tE cl E (zaj gg f h)) :=
 PE.imp (zq4 ho ha hb hs) (two fun _ _ _ _ z=>z)
def zqz{op:CmpOp}{gg:D->D->Option D}(ho:OpD X cl (compareOp op) gg)(ha:PE X a (tH cl E f))(hb:PE X b (tH cl E h))(hm:behindInMarks op b=false):PE X (.Compare a [op] [b] pos) (tE cl E (zaj gg f h)) :=
 PE.imp (zg7 ho ha hb hm) (two fun _ _ _ _ z=>z)
def ztA{op:UnaryOp}{gg:D->Option D}(ho:UnD X cl (unaryOp op) gg)(ha:PE X a (tH cl E f)):PE X (.UnaryOp op a pos) (tE cl E (eUn gg f)):=by
 refine PE.imp (ztM ho ha) ?_;rintro σ H Q ⟨B,w,ρ,S,rfl,R,q⟩;refine ⟨B,w,ρ,S,rfl,R,?_⟩;unfold eUn at q
 cases hf:f ρ S with
 | bad=>rwa [hf] at q
 | exc c S1=>rwa [hf] at q
 | ok d S1 =>
  rw [hf] at q;intro v w1 R1 F1 h1;dsimp only [Out.bind] at q
  cases hg:gg d with
  | none=>rw [hg] at q;exact q.elim
  | some r =>
   rw [hg] at q;exact ⟨w1,d,r,rfl,h1.top R1,hg,fun v' w' gr sh=>q v' w' (R1.grow gr) (F1.trans gr.fut) sh⟩
noncomputable def tTr(cl:Cf)(E:St->XK)(f:Fe):TT:=fun σ H Q=>∃B w ρ S,w.H=H/\Rel cl B σ w ρ S/\match f ρ S with
 | .ok d S'=>match isB d with
  | some b=>∀w',Rel cl B σ w' ρ S'->Fut w w'->Q b w'.H
  | none=>False
 | .exc c S'=>∀w',Rel cl B σ w' ρ S'->Fut w w'->E σ (.ref (cl c)) none w'.H
 | .bad=>False
def zcA{d:D}{b:Bool}(h:isB d=some b):d=.bl b:=by
 cases d<;>simp [isB] at h
 subst h;rfl
def zf8{w:Wd}{v:V}{b:Bool}(h:Shd cl w v (.bl b)):v=.bl b:=by cases h;rfl
def zfX{σ:St}{H:Hp}{Q:Bool->Hp->Prop}(q:tTr cl E f σ H Q):tB (tE cl E f) σ H Q:=by
 obtain ⟨B,w,ρ,S,rfl,R,q⟩:=q;refine ⟨B,w,ρ,S,rfl,R,?_⟩
 cases hf:f ρ S with
 | bad=>rwa [hf] at q
 | exc c S1=>rwa [hf] at q
 | ok d S1 =>
  rw [hf] at q;intro v w1 R1 F1 h1;dsimp only at q
  cases hb:isB d with
  | none=>rw [hb] at q;exact q.elim
  | some b =>
   rw [hb] at q;rw [zcA hb] at h1;exact ⟨b,zf8 h1,q w1 R1 F1⟩
def zaP(h:PE X e (tE cl E f))(he:∀whole,isTrue e X.env whole=(do let v ← whole;standAt e.pos;holding [v] (truthy v))):PT X e (tTr cl E f) :=
 PT.imp (zqR h he) fun _ _ _ q=>zfX q
def zje{gg:D->D->Option D}{r2:R2}(hr:∀x y H Q,(∃w d e r,w.H=H/\TopV cl w x d/\TopV cl w y e/\gg d e=some r/\∀v w',Grow w w'->Shd cl w' v r->Q v w'.H)->r2 x y H Q){σ:St}{H:Hp}{Q:Bool->Hp->Prop}(q:tTr cl E (zaj gg f h) σ H Q):znL (tOp r2 (tH cl E f) (tH cl E h)) σ H Q :=
 two hr σ H _ (zfX q)
def zp6{op:CmpOp}{gg:D->D->Option D}(ho:OpD X cl (compareOp op) gg)(ha:PE X a (tH cl E f))(hb:PE X b (tH cl E h))(hm:behindInMarks op b=false):PT X (.Compare a [op] [b] pos) (tTr cl E (zaj gg f h)) :=
 PT.imp (zg6 ho ha hb hm) fun _ _ _ q=>zje (fun _ _ _ _ z=>z) q
def PW.imp{X:Cx}{e:Expr}{t t':TT}(h:PW X e t)(i:∀σ H Q,t' σ H Q->t σ H Q):PW X e t':=fun whole pins s σ H Q I q=>h whole pins s σ H Q I (i _ _ _ q)
def znK{σ:St}{H:Hp}{Q:Bool->Hp->Prop}(q:tTr cl E (zkG f h) σ H Q):zvP (tTr cl E f) (tTr cl E h) σ H Q:=by
 obtain ⟨B,w,ρ,S,rfl,R,q⟩:=q;refine ⟨B,w,ρ,S,rfl,R,?_⟩;unfold zkG at q
 cases hf:f ρ S with
 | bad=>rwa [hf] at q
 | exc c S1=>rwa [hf] at q
 | ok d S1 =>
  rw [hf] at q;dsimp only [Out.bind] at q ⊢
  cases hb:isB d with
  | none=>rw [hb] at q;exact q.elim
  | some b =>
   rw [hb] at q;intro w1 R1 F1
   cases b with
   | false=>exact znp (q w1 R1 F1)
   | true =>
    refine zno ⟨B,w1,ρ,S1,rfl,R1,?_⟩;dsimp only at q
    cases hh:h ρ S1 with
    | bad=>rwa [hh] at q
    | exc c S2=>rw [hh] at q;exact fun w2 R2 F2=>q w2 R2 (F1.trans F2)
    | ok e S2 =>
     rw [hh] at q;dsimp only at q ⊢
     cases hb2:isB e with
     | none=>rw [hb2] at q;exact q.elim
     | some b2=>rw [hb2] at q;exact fun w2 R2 F2=>q w2 R2 (F1.trans F2)
def zpR{σ:St}{H:Hp}{Q:Bool->Hp->Prop}(q:tTr cl E (eOr f h) σ H Q):tOr (tTr cl E f) (tTr cl E h) σ H Q:=by
 obtain ⟨B,w,ρ,S,rfl,R,q⟩:=q;refine ⟨B,w,ρ,S,rfl,R,?_⟩;unfold eOr at q
 cases hf:f ρ S with
 | bad=>rwa [hf] at q
 | exc c S1=>rwa [hf] at q
 | ok d S1 =>
  rw [hf] at q;dsimp only [Out.bind] at q ⊢
  cases hb:isB d with
  | none=>rw [hb] at q;exact q.elim
  | some b =>
   rw [hb] at q;intro w1 R1 F1
   cases b with
   | true=>exact zno (q w1 R1 F1)
   | false =>
    refine znp ⟨B,w1,ρ,S1,rfl,R1,?_⟩;dsimp only at q
    cases hh:h ρ S1 with
    | bad=>rwa [hh] at q
    | exc c S2=>rw [hh] at q;exact fun w2 R2 F2=>q w2 R2 (F1.trans F2)
    | ok e S2 =>
     rw [hh] at q;dsimp only at q ⊢
     cases hb2:isB e with
     | none=>rw [hb2] at q;exact q.elim
     | some b2=>rw [hb2] at q;exact fun w2 R2 F2=>q w2 R2 (F1.trans F2)
def znJ{σ:St}{H:Hp}{Q:Bool->Hp->Prop}(q:tTr cl E (eUn zlP f) σ H Q):zvN (tTr cl E f) σ H Q:=by
 obtain ⟨B,w,ρ,S,rfl,R,q⟩:=q;refine ⟨B,w,ρ,S,rfl,R,?_⟩;unfold eUn at q
 cases hf:f ρ S with
 | bad=>rwa [hf] at q
 | exc c S1=>rwa [hf] at q
 | ok d S1 =>
  rw [hf] at q;dsimp only [Out.bind] at q ⊢
  cases hb:isB d with
  | none =>
   have:zlP d=none:=by cases d<;>simp [isB] at hb<;>rfl
   rw [this] at q;exact q.elim
  | some b =>
   rwa [zcA hb] at q
def zp4(ha:PT X a (tTr cl E f)):PT X (.UnaryOp .Not a pos) (tTr cl E (eUn zlP f)):=PT.imp (zqS ha) fun _ _ _ q=>znJ q
def zp1{zbt:List Expr}(ha:PT X a (tTr cl E f))(hb:PW X (.BoolOp .And (b::zbt) pos) (tTr cl E h)):PW X (.BoolOp .And (a::b::zbt) pos) (tTr cl E (zkG f h)):=PW.imp (zqO ha hb) fun _ _ _ q=>znK q
def ztq{zbt:List Expr}(ha:PT X a (tTr cl E f))(hb:PW X (.BoolOp .Or (b::zbt) pos) (tTr cl E h)):PW X (.BoolOp .Or (a::b::zbt) pos) (tTr cl E (eOr f h)):=PW.imp (ztJ ha hb) fun _ _ _ q=>zpR q
def zqB{zbt:List Expr}(ha:PE X a (tE cl E f))(hb:PE X (.BoolOp .And (b::zbt) pos) (tE cl E h)):PE X (.BoolOp .And (a::b::zbt) pos) (tE cl E (zkG f h)):=by
 refine PE.imp (zq6 ha hb) ?_;rintro σ H Q ⟨B,w,ρ,S,rfl,R,q⟩;refine ⟨B,w,ρ,S,rfl,R,?_⟩;unfold zkG at q
 cases hf:f ρ S with
 | bad=>rwa [hf] at q
 | exc c S1=>rwa [hf] at q
 | ok d S1 =>
  rw [hf] at q;intro v w1 R1 F1 h1;dsimp only [Out.bind] at q
  cases hb:isB d with
  | none=>rw [hb] at q;exact q.elim
  | some b =>
   rw [hb] at q;rw [zcA hb] at h1;refine ⟨b,zf8 h1,?_⟩
   cases b with
   | false=>exact znp (q _ w1 R1 F1 (.bl false))
   | true =>
    refine zno ⟨B,w1,ρ,S1,rfl,R1,?_⟩;dsimp only at q
    cases hh:h ρ S1 with
    | bad=>rwa [hh] at q
    | exc c S2=>rw [hh] at q;exact fun w2 R2 F2=>q w2 R2 (F1.trans F2)
    | ok e S2=>rw [hh] at q;exact fun v w2 R2 F2=>q v w2 R2 (F1.trans F2)
def ztB{zbt:List Expr}(ha:PE X a (tE cl E f))(hb:PE X (.BoolOp .Or (b::zbt) pos) (tE cl E h)):PE X (.BoolOp .Or (a::b::zbt) pos) (tE cl E (eOr f h)):=by
 refine PE.imp (ztN ha hb) ?_;rintro σ H Q ⟨B,w,ρ,S,rfl,R,q⟩;refine ⟨B,w,ρ,S,rfl,R,?_⟩;unfold eOr at q
 cases hf:f ρ S with
 | bad=>rwa [hf] at q
 | exc c S1=>rwa [hf] at q
 | ok d S1 =>
  rw [hf] at q;intro v w1 R1 F1 h1;dsimp only [Out.bind] at q
  cases hb:isB d with
  | none=>rw [hb] at q;exact q.elim
  | some b =>
   rw [hb] at q;rw [zcA hb] at h1;refine ⟨b,zf8 h1,?_⟩
   cases b with
   | true=>exact zno (q _ w1 R1 F1 (.bl true))
   | false =>
    refine znp ⟨B,w1,ρ,S1,rfl,R1,?_⟩;dsimp only at q
    cases hh:h ρ S1 with
    | bad=>rwa [hh] at q
    | exc c S2=>rw [hh] at q;exact fun w2 R2 F2=>q w2 R2 (F1.trans F2)
    | ok e S2=>rw [hh] at q;exact fun v w2 R2 F2=>q v w2 R2 (F1.trans F2)
def zqr(ha:PE X a (tE cl E f)):PE X (.UnaryOp .Not a pos) (tE cl E (eUn zlP f)):=by
 refine PE.imp (zq2 ha) ?_;rintro σ H Q ⟨B,w,ρ,S,rfl,R,q⟩;refine ⟨B,w,ρ,S,rfl,R,?_⟩;unfold eUn at q
 cases hf:f ρ S with
 | bad=>rwa [hf] at q
 | exc c S1=>rwa [hf] at q
 | ok d S1 =>
  rw [hf] at q;intro v w1 R1 F1 h1;dsimp only [Out.bind] at q
  cases hb:isB d with
  | none =>
   have:zlP d=none:=by cases d<;>simp [isB] at hb<;>rfl
   rw [this] at q;exact q.elim
  | some b =>
   rw [zcA hb] at q h1;exact ⟨b,zf8 h1,q _ w1 R1 F1 (.bl _)⟩
def ztl{σ:St}{H:Hp}{Q:VK}(q:tE cl E (eIf g f h) σ H Q):tIf (tTr cl E g) (tE cl E f) (tE cl E h) σ H Q:=by
 obtain ⟨B,w,ρ,S,rfl,R,q⟩:=q;refine ⟨B,w,ρ,S,rfl,R,?_⟩;unfold eIf at q
 cases hg:g ρ S with
 | bad=>rwa [hg] at q
 | exc c S1=>rwa [hg] at q
 | ok d S1 =>
  rw [hg] at q;dsimp only [Out.bind] at q ⊢
  cases hb:isB d with
  | none=>rw [hb] at q;exact q.elim
  | some b =>
   rw [hb] at q;intro w1 R1 F1
   cases b with
   | true =>
    refine zno ⟨B,w1,ρ,S1,rfl,R1,?_⟩;dsimp only at q
    cases hh:f ρ S1 with
    | bad=>rwa [hh] at q
    | exc c S2=>rw [hh] at q;exact fun w2 R2 F2=>q w2 R2 (F1.trans F2)
    | ok e S2=>rw [hh] at q;exact fun v w2 R2 F2=>q v w2 R2 (F1.trans F2)
   | false =>
    refine znp ⟨B,w1,ρ,S1,rfl,R1,?_⟩;dsimp only at q
    cases hh:h ρ S1 with
    | bad=>rwa [hh] at q
    | exc c S2=>rw [hh] at q;exact fun w2 R2 F2=>q w2 R2 (F1.trans F2)
    | ok e S2=>rw [hh] at q;exact fun v w2 R2 F2=>q v w2 R2 (F1.trans F2)
def ztD(hc:PT X c (tTr cl E g))(ha:PE X a (tE cl E f))(hb:PE X b (tE cl E h)):PE X (.IfExp c a b pos) (tE cl E (eIf g f h)):=PE.imp (zlC hc ha hb) fun _ _ _ q=>ztl q
def zdI:PA X [] (tAs cl E []):=by
 refine PA.imp zch ?_;rintro σ H Q ⟨B,w,ρ,S,rfl,R,q⟩;exact q [] w R (Fut.refl _) .nil
def zbO{es:List Expr}{fs:List Fe}(ha:PE X e (tE cl E f))(hr:PA X es (tAs cl E fs))(hs:starEach (e::es) X.env=(false,eval e X.env)::starEach es X.env):PA X (e::es) (tAs cl E (f::fs)):=by
 refine PA.imp (za9 ha hr hs) ?_;rintro σ H Q ⟨B,w,ρ,S,rfl,R,q⟩;refine ⟨B,w,ρ,S,rfl,R,?_⟩;unfold zah at q
 cases hf:f ρ S with
 | bad=>rwa [hf] at q
 | exc c S1=>rwa [hf] at q
 | ok d S1 =>
  rw [hf] at q;intro v w1 R1 F1 h1;refine ⟨B,w1,ρ,S1,rfl,R1,?_⟩;dsimp only [Out.bind] at q
  cases hh:zah fs ρ S1 with
  | bad=>rwa [hh] at q
  | exc c S2=>rw [hh] at q;exact fun w2 R2 F2=>q w2 R2 (F1.trans F2)
  | ok ds S2 =>
   rw [hh] at q;exact fun vs w2 R2 F2 h2=>q _ w2 R2 (F1.trans F2) (.cons (h1.up F2) h2)
def zmY:PA X [] (tHs cl E []):=by
 refine PA.imp zch ?_;rintro σ H Q ⟨B,w,ρ,S,rfl,R,q⟩;exact q [] w R (Fut.refl _) .nil
def zjo{es:List Expr}{fs:List Fe}(ha:PE X e (tH cl E f))(hr:PA X es (tHs cl E fs))(hs:starEach (e::es) X.env=(false,eval e X.env)::starEach es X.env):PA X (e::es) (tHs cl E (f::fs)):=by
 refine PA.imp (za9 ha hr hs) ?_;rintro σ H Q ⟨B,w,ρ,S,rfl,R,q⟩;refine ⟨B,w,ρ,S,rfl,R,?_⟩;unfold zah at q
 cases hf:f ρ S with
 | bad=>rwa [hf] at q
 | exc c S1=>rwa [hf] at q
 | ok d S1 =>
  rw [hf] at q;intro v w1 R1 F1 h1;refine ⟨B,w1,ρ,S1,rfl,R1,?_⟩;dsimp only [Out.bind] at q
  cases hh:zah fs ρ S1 with
  | bad=>rwa [hh] at q
  | exc c S2=>rw [hh] at q;exact fun w2 R2 F2=>q w2 R2 (F1.trans F2)
  | ok ds S2 =>
   rw [hh] at q;exact fun vs w2 R2 F2 h2=>q _ w2 R2 (F1.trans F2) (.cons (h1.up F2) h2)
def zqo{es:List Expr}{fs:List Fe}{k:Nat}(h:PA X es (tAs cl E fs)):PE X (.Tuple es k pos) (tE cl E (zgO fs)):=by
 refine PE.imp (znb h) ?_;rintro σ H Q ⟨B,w,ρ,S,rfl,R,q⟩;refine ⟨B,w,ρ,S,rfl,R,?_⟩;unfold zgO at q
 cases hf:zah fs ρ S with
 | bad=>rwa [hf] at q
 | exc c S1=>rwa [hf] at q
 | ok ds S1 =>
  rw [hf] at q;intro vs w1 R1 F1 h1;dsimp only [Out.bind] at q
  cases hz:zaN ds.length with
  | false=>rw [hz,if_neg (by decide)] at q;exact q.elim
  | true =>
   rw [hz,if_pos rfl] at q;refine ⟨by rw [h1.length];exact zaM hz,fun p hp=>?_⟩;exact q _ (w1.add p (.tup vs)) (R1.grow (zan hp _)) (F1.trans (zan hp _).fut) (Shd.newT hp h1)
def zqu{es:List Expr}{fs:List Fe}(h:PA X es (tAs cl E fs)):PE X (.List es pos) (tN cl E (ziL fs)):=by
 refine PE.imp (znc h) ?_;rintro σ H Q ⟨B,w,ρ,S,rfl,R,q⟩;refine ⟨B,w,ρ,S,rfl,R,?_⟩;unfold ziL at q
 cases hf:zah fs ρ S with
 | bad=>rwa [hf] at q
 | exc c S1=>rwa [hf] at q
 | ok ds S1 =>
  rw [hf] at q;intro vs w1 R1 F1 h1;dsimp only [Out.bind] at q
  cases hz:zaN ds.length with
  | false=>rw [hz,if_neg (by decide)] at q;exact q.elim
  | true =>
   rw [hz,if_pos rfl] at q;refine ⟨by rw [h1.length];exact zaM hz,fun p hp=>?_⟩;exact q _ (.lst vs) w1 R1 F1 hp (.lst h1)
def zpZ{fs:List Fe}{gg:List D->Option D}{r:List V->Hp->VK->Prop}(hr:∀xs H Q,(∃w ds r,w.H=H/\zk4 cl w xs ds/\gg ds=some r/\∀v w',Grow w w'->Shd cl w' v r->Q v w'.H)->r xs H Q){σ:St}{H:Hp}{Q:VK}(q:tE cl E (zaG gg fs) σ H Q):tCB r (tHs cl E fs) σ H Q:=by
 obtain ⟨B,w,ρ,S,rfl,R,q⟩:=q;refine ⟨B,w,ρ,S,rfl,R,?_⟩;unfold zaG at q
 cases hf:zah fs ρ S with
 | bad=>rwa [hf] at q
 | exc c S1=>rwa [hf] at q
 | ok ds S1 =>
  rw [hf] at q;intro vs w1 R1 F1 h1;dsimp only [Out.bind] at q
  cases hg:gg ds with
  | none=>rw [hg] at q;exact q.elim
  | some d =>
   rw [hg] at q;exact hr _ _ _ ⟨w1,ds,d,rfl,h1.top R1,hg,fun v w' gr sh=>q v w' (R1.grow gr) (F1.trans gr.fut) sh⟩
def zto{fs:List Fe}{gg:List D->Option D}{r:List V->Hp->VK->Prop}(hr:∀xs H Q,(∃w ds r,w.H=H/\zk4 cl w xs ds/\gg ds=some r/\∀p o w',Grow w w'->w'.H p=none->Top cl w' o r->Q (.ref p) (upd w'.H p o))->r xs H Q){σ:St}{H:Hp}{Q:VK}(q:tN cl E (zaG gg fs) σ H Q):tCB r (tHs cl E fs) σ H Q:=by
 obtain ⟨B,w,ρ,S,rfl,R,q⟩:=q;refine ⟨B,w,ρ,S,rfl,R,?_⟩;unfold zaG at q
 cases hf:zah fs ρ S with
 | bad=>rwa [hf] at q
 | exc c S1=>rwa [hf] at q
 | ok ds S1 =>
  rw [hf] at q;intro vs w1 R1 F1 h1;dsimp only [Out.bind] at q
  cases hg:gg ds with
  | none=>rw [hg] at q;exact q.elim
  | some d =>
   rw [hg] at q;exact hr _ _ _ ⟨w1,ds,d,rfl,h1.top R1,hg,fun p o w' gr hp t=>q p o w' (R1.grow gr) (F1.trans gr.fut) hp t⟩
end
end S2
namespace S2
open PySem PySem.Spec PyProof.Rows L2
noncomputable def Root.out:Option Root->Option Root | some (.slot _)=>some .far | o=>o
def Root.out_none{o:Option Root}:Root.out o=none↔o=none:=by
 cases o with
 | none=>exact ⟨fun h=>h,fun h=>h⟩
 | some r=>cases r<;>simp [Root.out]
noncomputable def zep:Option Root->Bool | some (.fld _ _)=>true | some (.obj _)=>true | _=>false
noncomputable def Wd.inn(w:Wd):Wd:=⟨w.H,fun a=>Root.out (w.ow a),w.mu⟩
noncomputable def Wd.base(w:Wd):Base:=⟨fun a=>if zep (w.ow a)=true then none else w.H a,fun a=>Root.out (w.ow a)⟩
noncomputable def Wd.back(w w':Wd):Wd:=⟨w'.H,fun a=>if (w.base.Fr a).isSome=true then w.ow a else Root.out (w'.ow a),w'.mu⟩
def zbP(w:Wd):Fut w w.inn:=⟨fun a o h k=>⟨h,by show Root.out (w.ow a)=none;rw [k];rfl⟩,fun _ _ h=>h⟩
def zgJ{w:Wd}{a:Addr}{o:HO}(h:w.H a=some o)(k:zep (w.ow a)=false):w.base.Fr a=some o:=by
 show (if zep (w.ow a)=true then none else w.H a)=_;rw [k,if_neg (by decide)];exact h
def zoG{w:Wd}{a:Addr}{o:HO}(h:w.base.Fr a=some o):w.H a=some o/\zep (w.ow a)=false:=by
 have h':(if zep (w.ow a)=true then none else w.H a)=some o:=h;split at h'
 ·cases h'
 ·rename_i z;exact ⟨h',by simpa using z⟩
section
variable{cl:Cf}{B:Base}{σ:St}{w w':Wd}{ρ:Env}{S S':Sto}
def World'.enter(W:World' cl B w S):World' cl w.base w.inn S where
 fr:=fun a o h=>⟨(zoG h).1,rfl⟩
 own:=fun a r h=>by
  have h':Root.out (w.ow a)=some r:=h
  cases e:w.ow a with
  | none=>rw [e] at h';cases h'
  | some q =>
   cases q with
   | slot i=>rw [e] at h';cases h';exact .inl rfl
   | far=>rw [e] at h';cases h';exact .inl rfl
   | fld n f=>exact .inr (by show (if zep (w.ow a)=true then none else w.H a)=none;rw [e];rfl)
   | obj n=>exact .inr (by show (if zep (w.ow a)=true then none else w.H a)=none;rw [e];rfl)
 len:=W.len
 obj:=fun n ob h=>by
  obtain ⟨a,e,x⟩:=W.obj n ob h;refine ⟨a,e,x.keep (zbP w) fun a o ha hn=>⟨ha,?_⟩⟩;show Root.out (w.ow a)=w.ow a
  cases e:w.ow a with
  | none=>rfl
  | some q=>cases q with
   | slot i=>rw [e] at hn;exact hn.elim
   | _=>rfl
def zc1(W:World' cl B w S){a:Addr}{o:HO}(h:B.Fr a=some o):w.base.Fr a=some o:=by
 refine zgJ (W.fr a o h).1 ?_
 cases e:w.ow a with
 | none=>rfl
 | some q =>
  rcases W.own a q e with rfl | z
  ·rfl
  ·rw [h] at z;cases z
def zcC(W':World' cl w.base w' S'):Fut w' (w.back w') where
 keep:=fun a o h k=>by
  refine ⟨h,?_⟩;show (if (w.base.Fr a).isSome=true then w.ow a else Root.out (w'.ow a))=none;split
  ·rename_i z;obtain ⟨u,hu⟩:=ycp.mp z;have:=(W'.fr a u hu).2;rw [k] at this;exact Root.out_none.mp this.symm
  ·rw [k];rfl
 mu:=fun _ _ h=>h
def Rel.leave(R:Rel cl B σ w ρ S)(W':World' cl w.base w' S')(F:Fut w.inn w'):Rel cl B σ (w.back w') ρ S'/\Fut w (w.back w'):=by
 have fb:=zcC W';have ff:Fut w (w.back w'):=(zbP w).trans (F.trans fb)
 have in_:∀a o,w.base.Fr a=some o->(w.back w').H a=some o/\(w.back w').ow a=w.ow a:=fun a o h=>by
  refine ⟨(W'.fr a o h).1,?_⟩;show (if (w.base.Fr a).isSome=true then w.ow a else _)=_;rw [h];rfl
 refine ⟨⟨⟨fun a o h=>?_,fun a r h=>?_,W'.len,fun n ob h=>?_⟩,R.len,fun i o d h=>?_⟩,ff⟩
 ·have:=in_ a o (zc1 R.wd h);exact ⟨this.1,this.2.trans (R.wd.fr a o h).2⟩
 ·cases hb:B.Fr a with
  | none=>exact .inr rfl
  | some o =>
   have:=(in_ a o (zc1 R.wd hb)).2;rw [h] at this
   rcases R.wd.own a r this.symm with z | z
   ·exact .inl z
   ·rw [hb] at z;cases z
 ·obtain ⟨a,e,x⟩:=W'.obj n ob h;refine ⟨a,e,x.keep fb fun a o ha hn=>⟨ha,?_⟩⟩;show (if (w.base.Fr a).isSome=true then w.ow a else Root.out (w'.ow a))=_
  cases e:w'.ow a with
  | none=>rw [e] at hn;exact hn.elim
  | some q =>
   rcases W'.own a q e with rfl | z
   ·rw [e] at hn;exact hn.elim
   ·rw [z]
    cases q with
    | slot i=>rw [e] at hn;exact hn.elim
    | _=>rfl
 ·obtain ⟨v,e,x⟩:=R.slots i o d h;refine ⟨v,e,x.keep ff fun a u ha hr=>?_⟩;have:=in_ a u (zgJ ha (by rw [hr];rfl));exact ⟨this.1,this.2.trans hr⟩
noncomputable def Wd.del(w:Wd)(a:Addr):Wd:=⟨fun b=>if b=a then none else w.H b,w.ow,w.mu⟩
def zhi{a:Addr}(k:w.ow a≠none):Fut w (w.del a) where
 keep:=fun b o h e=>⟨by
  show (if b=a then none else w.H b)=_
  rw [if_neg (fun z=>k (by rw [<-z];exact e))];exact h,e⟩
 mu:=fun _ _ h=>h
def zi5{a:Addr}{o:HO}(h:w.H a=some o):upd (w.del a).H a o=w.H:=by
 funext b
 by_cases e:b=a
 ·rw [e,zam,h]
 ·rw [zag e];show (if b=a then none else w.H b)=_;rw [if_neg e]
theorem Rel.del{a:Addr}(R:Rel cl B σ w ρ S)(k:w.ow a=some .far)(hb:B.Fr a=none):Rel cl B σ (w.del a) ρ S:=by
 have fd:Fut w (w.del a):=zhi (by rw [k];exact yaC _)
 have kp:∀b o,w.H b=some o->b≠a->(w.del a).H b=some o:=fun b o h n=>by
  show (if b=a then none else w.H b)=_;rw [if_neg n];exact h
 refine ⟨⟨fun b o h=>⟨kp b o (R.wd.fr b o h).1 (fun z=>by rw [z,hb] at h;cases h),(R.wd.fr b o h).2⟩,R.wd.own,R.wd.len,fun n ob h=>?_⟩,R.len,fun i o d h=>?_⟩
 ·obtain ⟨c,e,x⟩:=R.wd.obj n ob h;exact ⟨c,e,x.keep fd fun b o hb' hn=>⟨kp b o hb' (fun z=>by rw [z,k] at hn;exact hn.elim),rfl⟩⟩
 ·obtain ⟨v,e,x⟩:=R.slots i o d h;exact ⟨v,e,x.keep fd fun b o hb' hr=>⟨kp b o hb' (fun z=>by rw [z,k] at hr;cases hr),hr⟩⟩
end
noncomputable def zw7(cl:Cf)(w:Wd):Bool->V->D->Prop
 | false,v,d=>Shd cl w v d
 | true,v,d=>∃a o i,v=.ref a/\w.ow a=some (.slot i)/\w.H a=some o/\Top cl w o d
noncomputable def zin(cl:Cf)(n:Nat)(own:Bool)(G:List D->Sto->Out D):Sp:=fun vs H Q E=>vs.length=n/\∃B w ds S,w.H=H/\World' cl B w S/\Shds cl w vs ds/\match G ds S with
 | .ok d S'=>∀v w',World' cl B w' S'->Fut w w'->zw7 cl w' own v d->Q v w'.H
 | .exc c S'=>∀w',World' cl B w' S'->Fut w w'->E (.ref (cl c)) none w'.H
 | .bad=>False
noncomputable def zcv(CX:CXT)(X:Cx)(E:St->XK):Prop:=∀(pins:Z3) (σ:St) (H:Hp) (s:Shared) (e:Value) (s':Shared),Inv X pins σ H s->CX X.stack H s (E σ) e s'->X.xe e s'
noncomputable def zfZ(sp:Sp)(dvs:List V)(E:St->XK)(t:TA):TE:=fun σ H Q=>t σ H fun vs H1=>sp (vs++dvs) H1 Q (E σ)
section
variable{X:Cx}{CX:CXT}{k:Nat}{f C:Addr}{fd:FuncData}{ps:List Str}{sp:Sp}{dvs:List V}{ds:List Value}{E:St->XK}{x m:Str}{p pos apos:Pos}{e o:Expr}{es:List Expr}{ta:TE}{t:TA}
def zfh{pins:Z3}{σ:St}{H:Hp}{s:Shared}{Q:VK}{us:List Value}{vs:List V}(F:FnOk X.prog X.w X.K X.mg X.base CX k f fd ps sp)(hr:Room k X.A)(hb:zcH X.K fd ps ds)(hd:Vals dvs ds)(hx:zcv CX X E)
  (I:Inv X pins σ H s) (r:Vals vs us) (h:sp (vs++dvs) H Q (E σ)):wpAny (model X.prog X.w) X.A (call (.ref f) us) (EP X pins σ Q) X.xe s:=by
 have r2:Vals (vs++dvs) (us++ds):=r.append hd
 have hl:(us++ds).length=ps.length:=by rw [<-r2.length];exact F.len _ _ _ _ h
 refine wpAny_call (ycN (F.run X.A X.stack s H ⟨us,[]⟩ (us++ds) (vs++dvs) Q (E σ) hr I.env0 (hb s us I.kIn hl) r2 h) fun r s' hq=>?_)
 cases r with
 | error e=>exact hx pins σ H s e s' I hq
 | ok fl =>
  cases fl with
  | ret u=>exact I.after hq
  | next=>exact False.elim hq
  | brk=>exact False.elim hq
  | cont=>exact False.elim hq
def zlH(F:FnOk X.prog X.w X.K X.mg X.base CX k f fd ps sp)(hr:Room k X.A)(hg:Gl X x)(hm:X.mg x=some (.ref f))(hk:PySem.W.keepIn X.K (.ref f)=true)(hb:zcH X.K fd ps ds)(hd:Vals dvs ds)(hx:zcv CX X E)
  (ha:PA X (e::es) t) (hdb:(x == ("__debug__":Str))=false) (he:starEach (e::es) X.env=(false,eval e X.env)::starEach es X.env) (hpl:(backTo pos (starEach es X.env)).any (·.1)=false) :
  PE X (.Call (.Name x p) (e::es) [] pos) (zfZ sp dvs E t):=by
 intro pins s σ H Q I h;refine ybG (zfw I hg hm ?_ hdb);refine yda (h₀:=X.base) I.ok.mod.kin hk (thn (ha pos pins s σ H _ I h) fun us s1 ⟨vs,H1,I1,r,q⟩=>⟨I1.kIn,?_⟩) he hpl;exact zfh F hr hb hd hx I1 r q
def zjR(F:FnOk X.prog X.w X.K X.mg X.base CX k f fd ps sp)(hr:Room k X.A)(hg:Gl X x)(hm:X.mg x=some (.ref f))(hk:PySem.W.keepIn X.K (.ref f)=true)(hb:zcH X.K fd ps ds)(hd:Vals dvs ds)(hx:zcv CX X E)
  (hdb:(x == ("__debug__":Str))=false):PE X (.Call (.Name x p) [] [] pos) (zfZ sp dvs E zsv):=by
 intro pins s σ H Q I h;refine ybG (zfw I hg hm ?_ hdb);exact PySem.W.callWith_K0 I.kIn hk (zfh (us:=[]) F hr hb hd hx I .nil h)
end
noncomputable def eFn(G:List D->Sto->Out D)(fs:List Fe):Fe:=fun ρ S=>(zah fs ρ S).bind fun ds S1=>G ds S1
section
variable{cl:Cf}{E:St->XK}{fs:List Fe}{G:List D->Sto->Out D}{σ:St}{H:Hp}{Q:VK}{n:Nat}
def zse(q:tE cl E (eFn G fs) σ H Q)(hn:fs.length=n):zfZ (zin cl n false G) [] E (tAs cl E fs) σ H Q:=by
 obtain ⟨B,w,ρ,S,rfl,R,q⟩:=q;refine ⟨B,w,ρ,S,rfl,R,?_⟩;unfold eFn at q
 cases hf:zah fs ρ S with
 | bad=>rwa [hf] at q
 | exc c S1=>rwa [hf] at q
 | ok ds S1 =>
  rw [hf] at q;intro vs w1 R1 F1 h1;dsimp only [Out.bind] at q
  have hl:∀(fs:List Fe) (S S1:Sto) (ds:List D),zah fs ρ S=.ok ds S1->ds.length=fs.length:=by
   intro fs
   induction fs with
   | nil=>intro S S1 ds h;cases h;rfl
   | cons f fs ih =>
    intro S S1 ds h;unfold zah at h
    cases h1:f ρ S with
    | bad=>rw [h1] at h;cases h
    | exc c S2=>rw [h1] at h;cases h
    | ok d S2 =>
     rw [h1] at h;dsimp only [Out.bind] at h
     cases h2:zah fs ρ S2 with
     | bad=>rw [h2] at h;cases h
     | exc c S3=>rw [h2] at h;cases h
     | ok es S3=>rw [h2] at h;cases h;rw [yap,yap,ih S2 _ es h2]
  refine ⟨by rw [yaG,h1.length,hl fs S S1 ds hf];exact hn,w1.base,w1.inn,ds,S1,rfl,R1.wd.enter,by rw [yaG];exact h1.up (zbP w1),?_⟩
  cases hg:G ds S1 with
  | bad=>rwa [hg] at q
  | exc c S2 =>
   rw [hg] at q;intro w2 W2 F2;obtain ⟨R3,F3⟩:=R1.leave W2 F2;exact q (w1.back w2) R3 (F1.trans F3)
  | ok d S2 =>
   rw [hg] at q;intro v w2 W2 F2 r2;obtain ⟨R3,F3⟩:=R1.leave W2 F2;exact q v (w1.back w2) R3 (F1.trans F3) (Shd.up (zcC W2) r2)
def zsd(q:tN cl E (eFn G fs) σ H Q)(hn:fs.length=n):zfZ (zin cl n true G) [] E (tAs cl E fs) σ H Q:=by
 obtain ⟨B,w,ρ,S,rfl,R,q⟩:=q;refine ⟨B,w,ρ,S,rfl,R,?_⟩;unfold eFn at q
 cases hf:zah fs ρ S with
 | bad=>rwa [hf] at q
 | exc c S1=>rwa [hf] at q
 | ok ds S1 =>
  rw [hf] at q;intro vs w1 R1 F1 h1;dsimp only [Out.bind] at q
  have hl:∀(fs:List Fe) (S S1:Sto) (ds:List D),zah fs ρ S=.ok ds S1->ds.length=fs.length:=by
   intro fs
   induction fs with
   | nil=>intro S S1 ds h;cases h;rfl
   | cons f fs ih =>
    intro S S1 ds h;unfold zah at h
    cases h1:f ρ S with
    | bad=>rw [h1] at h;cases h
    | exc c S2=>rw [h1] at h;cases h
    | ok d S2 =>
     rw [h1] at h;dsimp only [Out.bind] at h
     cases h2:zah fs ρ S2 with
     | bad=>rw [h2] at h;cases h
     | exc c S3=>rw [h2] at h;cases h
     | ok es S3=>rw [h2] at h;cases h;rw [yap,yap,ih S2 _ es h2]
  refine ⟨by rw [yaG,h1.length,hl fs S S1 ds hf];exact hn,w1.base,w1.inn,ds,S1,rfl,R1.wd.enter,by rw [yaG];exact h1.up (zbP w1),?_⟩
  cases hg:G ds S1 with
  | bad=>rwa [hg] at q
  | exc c S2 =>
   rw [hg] at q;intro w2 W2 F2;obtain ⟨R3,F3⟩:=R1.leave W2 F2;exact q (w1.back w2) R3 (F1.trans F3)
  | ok d S2 =>
   rw [hg] at q;intro v w2 W2 F2 r2;obtain ⟨R3,F3⟩:=R1.leave W2 F2;obtain ⟨a,o,i,rfl,k1,k2,t⟩:=r2;have hfr:w1.base.Fr a=none:=(W2.own a _ k1).elim (fun z=>by cases z) fun z=>z
   have k3:(w1.back w2).ow a=some .far:=by
    show (if (w1.base.Fr a).isSome=true then w1.ow a else Root.out (w2.ow a))=_;rw [hfr,k1];rfl
   have hb:B.Fr a=none:=by
    cases z:B.Fr a with
    | none=>rfl
    | some u=>rw [zc1 R1.wd z] at hfr;cases hfr
   have hd:=zhi (w:=w1.back w2) (a:=a) (by rw [k3];exact yaC _);have:=q a o ((w1.back w2).del a) (R3.del k3 hb) (F1.trans (F3.trans hd)) (if_pos rfl) ((t.up (zcC W2)).up hd);rwa [zi5 (w:=w1.back w2) k2] at this
end
end S2
namespace S2
open PySem PySem.Spec PyProof.Rows L2
noncomputable def frz1(ρ:Env)(i:Nat):Env:=match ρ[i]? with | some (some (true,d))=>ρ.set i (some (false,d)) | _=>ρ
noncomputable def frz(is:List Nat)(ρ:Env):Env:=is.foldl frz1 ρ
noncomputable def sFz(is:List Nat)(f:Fs):Fs:=fun ρ S=>f (frz is ρ) S
noncomputable def sNx:Fs:=fun ρ S=>.nx ρ S
noncomputable def sBk:Fs:=fun ρ S=>.bk ρ S
noncomputable def zaz(f g:Fs):Fs:=fun ρ S=>match f ρ S with | .nx ρ' S'=>g ρ' S' | o=>o
noncomputable def zdU(i:Nat)(own:Bool)(f:Fe):Fs:=fun ρ S=>match f ρ S with | .ok d S'=>.nx (ρ.set i (some (own,d))) S' | .exc c S'=>.ex c ρ S' | .bad=>.bad
noncomputable def zqD(f:Fe):Fs:=fun ρ S=>match f ρ S with | .ok _ S'=>.nx ρ S' | .exc c S'=>.ex c ρ S' | .bad=>.bad
noncomputable def zca(f:Fe):Fs:=fun ρ S=>match f ρ S with | .ok d S'=>.rt d S' | .exc c S'=>.ex c ρ S' | .bad=>.bad
noncomputable def zlk:Fs:=fun _ S=>.rt .non S
noncomputable def zjw(i:Nat):Fs:=fun ρ S=>match ρ[i]? with | some (some (true,d))=>.rt d S | _=>.bad
noncomputable def sIf(c:Fe)(f g:Fs):Fs:=fun ρ S=>match c ρ S with | .ok d S'=>(match isB d with | some true=>f ρ S' | some false=>g ρ S' | none=>.bad) | .exc x S'=>.ex x ρ S' | .bad=>.bad
noncomputable def zig(cl:Cf)(E:St->XK)(own:Bool)(B:Base)(w:Wd)(De:Ends):Fo->Prop
 | .nx ρ' S'=>∀σ' w',Rel cl B σ' w' ρ' S'->Fut w w'->De.nx σ' w'.H
 | .bk ρ' S'=>∀σ' w',Rel cl B σ' w' ρ' S'->Fut w w'->De.bk σ' w'.H
 | .ct ρ' S'=>∀σ' w',Rel cl B σ' w' ρ' S'->Fut w w'->De.ct σ' w'.H
 | .rt d S'=>∀v w',World' cl B w' S'->Fut w w'->zw7 cl w' own v d->De.rt v w'.H
 | .ex c ρ' S'=>∀σ' w',Rel cl B σ' w' ρ' S'->Fut w w'->E σ' (.ref (cl c)) none w'.H
 | .bad=>False
theorem zig.up{cl:Cf}{E:St->XK}{own:Bool}{B:Base}{w w1:Wd}{De:Ends}(f:Fut w w1):∀{o:Fo},zig cl E own B w De o->zig cl E own B w1 De o
 | .nx _ _,h=>fun σ' w' R F=>h σ' w' R (f.trans F)
 | .bk _ _,h=>fun σ' w' R F=>h σ' w' R (f.trans F)
 | .ct _ _,h=>fun σ' w' R F=>h σ' w' R (f.trans F)
 | .rt _ _,h=>fun v w' R F=>h v w' R (f.trans F)
 | .ex _ _ _,h=>fun σ' w' R F=>h σ' w' R (f.trans F)
 | .bad,h=>h
noncomputable def tS(cl:Cf)(E:St->XK)(own:Bool)(f:Fs):TS:=fun De σ H=>∃B w ρ S,w.H=H/\Rel cl B σ w ρ S/\zig cl E own B w De (f ρ S)
def PS.imp{X:Cx}{st:Stmt}{t t':TS}(h:PS X st t)(i:∀De σ H,t' De σ H->t De σ H):PS X st t':=fun pins s σ H De I q=>h pins s σ H De I (i _ _ _ q)
def PSs.imp{X:Cx}{st:List Stmt}{t t':TS}(h:PSs X st t)(i:∀De σ H,t' De σ H->t De σ H):PSs X st t':=fun pins s σ H De I q=>h pins s σ H De I (i _ _ _ q)
section
variable{cl:Cf}{B:Base}{σ:St}{w:Wd}{ρ:Env}{S:Sto}
def Rel.put{i:Nat}{v:V}{d:D}(R:Rel cl B σ w ρ S)(h:Shd cl w v d):Rel cl B (σ.set i (some v)) w (ρ.set i (some (false,d))) S where
 wd:=R.wd
 len:=by rw [yaI,yaI];exact R.len
 slots:=fun j o e hj=>by
  by_cases hij:i=j
  ·subst hij
   have hlt:i<ρ.length:=by
    have:=(yam.mp hj).1;rwa [yaI] at this
   rw [yaM hlt] at hj;cases hj;exact ⟨v,by rw [yaM (by rw [R.len];exact hlt)],h⟩
  ·rw [ya2 hij] at hj ⊢;exact R.slots j o e hj
noncomputable def Wd.addAs(w:Wd)(p:Addr)(o:HO)(r:Root):Wd:=⟨upd w.H p o,fun a=>if a=p then some r else if w.ow a=some r then some .far else w.ow a,w.mu⟩
def zba{p:Addr}{o:HO}{r:Root}(h:w.H p=none):Fut w (w.addAs p o r) where
 keep:=fun a u ha hk=>by
  have n:a≠p:=zai ha h;refine ⟨?_,?_⟩
  ·show upd w.H p o a=_;rw [zag n];exact ha
  ·show (if a=p then some r else if w.ow a=some r then some Root.far else w.ow a)=none;rw [if_neg n,if_neg (by rw [hk];exact fun z=>by cases z)];exact hk
 mu:=fun _ _ h=>h
theorem Rel.own{i:Nat}{p:Addr}{o:HO}{d:D}(R:Rel cl B σ w ρ S)(hp:w.H p=none)(t:Top cl w o d):Rel cl B (σ.set i (some (.ref p))) (w.addAs p o (.slot i)) (ρ.set i (some (true,d))) S:=by
 have ff:=zba (w:=w) (p:=p) (o:=o) (r:=.slot i) hp
 have kp:∀a u,w.H a=some u->w.ow a≠some (.slot i)->(w.addAs p o (.slot i)).H a=some u/\(w.addAs p o (.slot i)).ow a=w.ow a:=fun a u ha hk=>by
  have n:a≠p:=zai ha hp;refine ⟨?_,?_⟩
  ·show upd w.H p o a=_;rw [zag n];exact ha
  ·show (if a=p then _ else if w.ow a=some (Root.slot i) then some Root.far else w.ow a)=_;rw [if_neg n,if_neg hk]
 have hBp:B.Fr p=none:=by
  cases z:B.Fr p with
  | none=>rfl
  | some u=>have:=(R.wd.fr p u z).1;rw [hp] at this;cases this
 refine ⟨⟨fun a u h=>?_,fun a r h=>?_,R.wd.len,fun n ob h=>?_⟩,by rw [yaI,yaI];exact R.len,fun j b e hj=>?_⟩
 ·have hne:w.ow a≠some (.slot i):=fun z=>by
   rcases R.wd.own a _ z with y | y
   ·cases y
   ·rw [h] at y;cases y
  have:=kp a u (R.wd.fr a u h).1 hne;exact ⟨this.1,this.2.trans (R.wd.fr a u h).2⟩
 ·have h':(if a=p then some (Root.slot i) else if w.ow a=some (Root.slot i) then some Root.far else w.ow a)=some r:=h;split at h'
  ·rename_i e;rw [e];exact .inr hBp
  ·split at h'
   ·cases h';exact .inl rfl
   ·exact R.wd.own a r h'
 ·obtain ⟨a,e,x⟩:=R.wd.obj n ob h;exact ⟨a,e,x.keep ff fun b u hb hn=>kp b u hb fun z=>by rwa [z] at hn⟩
 ·by_cases hij:i=j
  ·subst hij
   have hlt:i<ρ.length:=by
    have:=(yam.mp hj).1;rwa [yaI] at this
   rw [yaM hlt] at hj;cases hj;exact ⟨.ref p,by rw [yaM (by rw [R.len];exact hlt)],p,o,rfl,if_pos rfl,zam,t.up ff⟩
  ·rw [ya2 hij] at hj ⊢;obtain ⟨v,e1,x⟩:=R.slots j b e hj;refine ⟨v,e1,x.keep ff fun a u ha hr=>?_⟩;have:=kp a u ha (by rw [hr];exact fun z=>hij (by cases z;rfl));exact ⟨this.1,this.2.trans hr⟩
noncomputable def Wd.mut(w:Wd)(p:Addr)(o:HO):Wd:=⟨upd w.H p o,w.ow,w.mu⟩
def zcj{p:Addr}{o:HO}(h:w.ow p≠none):Fut w (w.mut p o) where
 keep:=fun a u ha hk=>⟨by
  show upd w.H p o a=_
  rw [zag (fun z=>h (by rw [<-z];exact hk))];exact ha,hk⟩
 mu:=fun _ _ h=>h
theorem Rel.mut{i:Nat}{p:Addr}{o:HO}{d d0:D}(R:Rel cl B σ w ρ S)(hs:σ[i]?=some (some (.ref p)))(hk:w.ow p=some (.slot i))(t:Top cl w o d):Rel cl B σ (w.mut p o) (ρ.set i (some (true,d))) S:=by
 have ff:=zcj (w:=w) (p:=p) (o:=o) (by rw [hk];exact yaC _)
 have kp:∀a u,w.H a=some u->w.ow a≠some (.slot i)->(w.mut p o).H a=some u/\(w.mut p o).ow a=w.ow a:=fun a u ha hn=>⟨by
  show upd w.H p o a=_
  rw [zag (fun z=>hn (by rw [z];exact hk))];exact ha,rfl⟩
 have hBp:B.Fr p=none:=(R.wd.own p _ hk).elim (fun z=>by cases z) fun z=>z
 refine ⟨⟨fun a u h=>?_,R.wd.own,R.wd.len,fun n ob h=>?_⟩,by rw [yaI];exact R.len,fun j b e hj=>?_⟩
 ·have hne:w.ow a≠some (.slot i):=fun z=>by
   rcases R.wd.own a _ z with y | y
   ·cases y
   ·rw [h] at y;cases y
  have:=kp a u (R.wd.fr a u h).1 hne;exact ⟨this.1,(R.wd.fr a u h).2⟩
 ·obtain ⟨a,e,x⟩:=R.wd.obj n ob h;exact ⟨a,e,x.keep ff fun b u hb hn=>kp b u hb fun z=>by rwa [z] at hn⟩
 ·by_cases hij:i=j
  ·subst hij
   have hlt:i<ρ.length:=by
    have:=(yam.mp hj).1;rwa [yaI] at this
   rw [yaM hlt] at hj;cases hj;exact ⟨.ref p,hs,p,o,rfl,hk,zam,t.up ff⟩
  ·rw [ya2 hij] at hj;obtain ⟨v,e1,x⟩:=R.slots j b e hj;refine ⟨v,e1,x.keep ff fun a u ha hr=>?_⟩;have:=kp a u ha (by rw [hr];exact fun z=>hij (by cases z;rfl));exact ⟨this.1,this.2.trans hr⟩
noncomputable def Wd.free(w:Wd)(r:Root):Wd:=⟨w.H,fun a=>if w.ow a=some r then none else w.ow a,w.mu⟩
def zml{r:Root}:Fut w (w.free r) where
 keep:=fun a u ha hk=>⟨ha,by
  show (if w.ow a=some r then none else w.ow a)=none
  rw [hk];rfl⟩
 mu:=fun _ _ h=>h
theorem Top.shd{o:HO}{d:D}{a:Addr}(h:w.H a=some o)(k:w.ow a=none):Top cl w o d->Shd cl w (.ref a) d
 | .lst t=>.lst h k t
 | .dicK t=>.dicK h k t
 | .dicT t=>.dicT h k t
 | .dicN=>.dicN h k
theorem Rel.frz1(R:Rel cl B σ w ρ S)(i:Nat):∃w',w'.H=w.H/\Fut w w'/\Rel cl B σ w' (frz1 ρ i) S:=by
 unfold S2.frz1;split
 ·rename_i d hd;have ff:=zml (w:=w) (r:=.slot i);have kp:∀a u,w.H a=some u->w.ow a≠some (.slot i)->(w.free (.slot i)).H a=some u/\(w.free (.slot i)).ow a=w.ow a:=fun a u ha hn=>⟨ha,if_neg hn⟩
  refine ⟨w.free (.slot i),rfl,ff,⟨fun a u h=>?_,fun a r h=>?_,R.wd.len,fun n ob h=>?_⟩,by rw [yaI];exact R.len,fun j b e hj=>?_⟩
  ·have hne:w.ow a≠some (.slot i):=fun z=>by
    rcases R.wd.own a _ z with y | y
    ·cases y
    ·rw [h] at y;cases y
   have:=kp a u (R.wd.fr a u h).1 hne;exact ⟨this.1,this.2.trans (R.wd.fr a u h).2⟩
  ·have h':(if w.ow a=some (Root.slot i) then none else w.ow a)=some r:=h;split at h'
   ·cases h'
   ·exact R.wd.own a r h'
  ·obtain ⟨a,e,x⟩:=R.wd.obj n ob h;exact ⟨a,e,x.keep ff fun b u hb hn=>kp b u hb fun z=>by rwa [z] at hn⟩
  ·by_cases hij:i=j
   ·subst hij;have hlt:i<ρ.length:=(yam.mp hd).1;rw [yaM hlt] at hj;cases hj;obtain ⟨v,e1,a,o,rfl,h1,h2,t⟩:=R.slots i true d hd;refine ⟨.ref a,e1,(t.up ff).shd h2 ?_⟩;show (if w.ow a=some (Root.slot i) then none else w.ow a)=none;rw [if_pos h1]
   ·rw [ya2 hij] at hj;obtain ⟨v,e1,x⟩:=R.slots j b e hj;refine ⟨v,e1,x.keep ff fun a u ha hr=>?_⟩;have:=kp a u ha (by rw [hr];exact fun z=>hij (by cases z;rfl));exact ⟨this.1,this.2.trans hr⟩
 ·exact ⟨w,rfl,Fut.refl _,R⟩
theorem Rel.frz:∀(is:List Nat) {w:Wd} {ρ:Env},Rel cl B σ w ρ S->∃w',w'.H=w.H/\Fut w w'/\Rel cl B σ w' (frz is ρ) S
 | [],w,ρ,R=>⟨w,rfl,Fut.refl _,R⟩
 | i::is,w,ρ,R=>by
  obtain ⟨w1,e1,f1,R1⟩:=R.frz1 i;obtain ⟨w2,e2,f2,R2⟩:=Rel.frz is R1;exact ⟨w2,e2.trans e1,f1.trans f2,R2⟩
end
section
variable{X:Cx}{cl:Cf}{E:St->XK}{own:Bool}{st:Stmt}{zbt:List Stmt}{f g:Fs}{e:Expr}{fe:Fe}{pos pos':Pos}
def ztu(is:List Nat)(h:PS X st (tS cl E own f)):PS X st (tS cl E own (sFz is f)):=by
 refine PS.imp h ?_;rintro De σ H ⟨B,w,ρ,S,rfl,R,q⟩;obtain ⟨w',e',f',R'⟩:=R.frz is;exact ⟨B,w',frz is ρ,S,e',R',zig.up f' q⟩
def zp8:PSs X [] (tS cl E own sNx):=by
 refine PSs.imp zon ?_;rintro De σ H ⟨B,w,ρ,S,rfl,R,q⟩;exact q σ w R (Fut.refl _)
def znZ(h1:PS X st (tS cl E own f))(h2:PSs X zbt (tS cl E own g)):PSs X (st::zbt) (tS cl E own (zaz f g)):=by
 refine PSs.imp (zlt h1 h2) ?_;rintro De σ H ⟨B,w,ρ,S,rfl,R,q⟩;refine ⟨B,w,ρ,S,rfl,R,?_⟩;unfold zaz at q
 cases hf:f ρ S with
 | nx ρ' S' =>
  rw [hf] at q;intro σ' w' R' F';exact ⟨B,w',ρ',S',rfl,R',zig.up F' q⟩
 | bk ρ' S'=>rwa [hf] at q
 | ct ρ' S'=>rwa [hf] at q
 | rt d S'=>rwa [hf] at q
 | ex c ρ' S'=>rwa [hf] at q
 | bad=>rwa [hf] at q
def znV:PS X (.Pass pos) (tS cl E own sNx):=by
 refine PS.imp zop ?_;rintro De σ H ⟨B,w,ρ,S,rfl,R,q⟩;exact q σ w R (Fut.refl _)
def zqb:PS X (.Break pos) (tS cl E own sBk):=by
 refine PS.imp zlw ?_;rintro De σ H ⟨B,w,ρ,S,rfl,R,q⟩;exact q σ w R (Fut.refl _)
def zuP{i:Nat}{De:Ends}{σ:St}{H:Hp}(q:tS cl E own (zdU i false fe) De σ H):zpB (tE cl E fe) (zkA i) De σ H:=by
 obtain ⟨B,w,ρ,S,rfl,R,q⟩:=q;refine ⟨B,w,ρ,S,rfl,R,?_⟩;unfold zdU at q
 cases hf:fe ρ S with
 | bad=>rwa [hf] at q
 | exc c S1=>rw [hf] at q;exact fun w' R' F'=>q σ w' R' F'
 | ok d S1 =>
  rw [hf] at q;intro v w' R' F' h';exact q _ w' (R'.put h') F'
def zsk{i:Nat}{De:Ends}{σ:St}{H:Hp}(q:tS cl E own (zdU i true fe) De σ H):zpB (tN cl E fe) (zkA i) De σ H:=by
 obtain ⟨B,w,ρ,S,rfl,R,q⟩:=q;refine ⟨B,w,ρ,S,rfl,R,?_⟩;unfold zdU at q
 cases hf:fe ρ S with
 | bad=>rwa [hf] at q
 | exc c S1=>rw [hf] at q;exact fun w' R' F'=>q σ w' R' F'
 | ok d S1 =>
  rw [hf] at q;intro p o w' R' F' hp t;exact q _ (w'.addAs p o (.slot i)) (R'.own hp t) (F'.trans (zba hp))
def zqd{i:Nat}{x:Str}(hN:X.N.Nodup)(hi:X.N[i]?=some x)(hx:Loc X.env.scope x)(he:PE X e (tE cl E fe))(hs:swapsWith e (some (.Name x pos')) pos.line X.env=pure false)(hf:X.fn x=true\/X.env.scope.names.lookup x=some .local):PS X (.Assign [.Name x pos'] e pos) (tS cl E own (zdU i false fe)) :=
 PS.imp (zm5 hN hi hx he hs hf) fun _ _ _ q=>zuP q
def zjj{i:Nat}{x:Str}(hN:X.N.Nodup)(hi:X.N[i]?=some x)(hx:Loc X.env.scope x)(he:PE X e (tN cl E fe))(hs:swapsWith e (some (.Name x pos')) pos.line X.env=pure false)(hf:X.fn x=true\/X.env.scope.names.lookup x=some .local):PS X (.Assign [.Name x pos'] e pos) (tS cl E own (zdU i true fe)) :=
 PS.imp (zm5 hN hi hx he hs hf) fun _ _ _ q=>zsk q
def zmW(he:PE X e (tE cl E fe))(hs:swapsWith e none pos.line X.env=pure false):PS X (.Expr e pos) (tS cl E own (zqD fe)):=by
 refine PS.imp (zfk he hs) ?_;rintro De σ H ⟨B,w,ρ,S,rfl,R,q⟩;refine ⟨B,w,ρ,S,rfl,R,?_⟩;unfold zqD at q
 cases hf:fe ρ S with
 | bad=>rwa [hf] at q
 | exc c S1=>rw [hf] at q;exact fun w' R' F'=>q σ w' R' F'
 | ok d S1=>rw [hf] at q;exact fun v w' R' F' _=>q σ w' R' F'
def zp7(he:PE X e (tE cl E fe)):PS X (.Return (some e) pos) (tS cl E false (zca fe)):=by
 refine PS.imp (zjF he) ?_;rintro De σ H ⟨B,w,ρ,S,rfl,R,q⟩;refine ⟨B,w,ρ,S,rfl,R,?_⟩;unfold zca at q
 cases hf:fe ρ S with
 | bad=>rwa [hf] at q
 | exc c S1=>rw [hf] at q;exact fun w' R' F'=>q σ w' R' F'
 | ok d S1=>rw [hf] at q;exact fun v w' R' F' h'=>q v w' R'.wd F' h'
def znR(he:PE X e (tN cl E fe)):PS X (.Return (some e) pos) (tS cl E true (zca fe)):=by
 refine PS.imp (zjF he) ?_;rintro De σ H ⟨B,w,ρ,S,rfl,R,q⟩;refine ⟨B,w,ρ,S,rfl,R,?_⟩;unfold zca at q
 cases hf:fe ρ S with
 | bad=>rwa [hf] at q
 | exc c S1=>rw [hf] at q;exact fun w' R' F'=>q σ w' R' F'
 | ok d S1 =>
  rw [hf] at q;intro p o w' R' F' hp t;have ff:=zba (w:=w') (p:=p) (o:=o) (r:=.slot 0) hp;exact q (.ref p) (w'.addAs p o (.slot 0)) (Rel.own (i:=0) R' hp t).wd (F'.trans ff) ⟨p,o,0,rfl,if_pos rfl,zam,t.up ff⟩
def znQ{i:Nat}{x:Str}(hN:X.N[i]?=some x)(hv:Vis X.env.scope x)(hd:(x == ("__debug__":Str))=false)(hcd:(x == ("__classdict__":Str))=false):PS X (.Return (some (.Name x pos')) pos) (tS cl E true (zjw i)):=by
 refine PS.imp (zjF (zbl hN hv hd hcd)) ?_;rintro De σ H ⟨B,w,ρ,S,rfl,R,q⟩;unfold zjw at q;split at q
 ·rename_i d hd;obtain ⟨v,e1,a,o,rfl,h1,h2,t⟩:=R.slots i true d hd;exact ⟨_,e1,q _ w R.wd (Fut.refl _) ⟨a,o,i,rfl,h1,h2,t⟩⟩
 ·exact q.elim
def znS:PS X (.Return none pos) (tS cl E false zlk):=by
 refine PS.imp zoo ?_;rintro De σ H ⟨B,w,ρ,S,rfl,R,q⟩;exact q .non w R.wd (Fut.refl _) .non
def ztt{c:Expr}{a b:List Stmt}{fc:Fe}(hc:PT X c (tTr cl E fc))(ha:PSs X a (tS cl E own f))(hb:PSs X b (tS cl E own g)):PS X (.If c a b pos) (tS cl E own (sIf fc f g)):=by
 refine PS.imp (ztL hc ha hb) ?_;rintro De σ H ⟨B,w,ρ,S,rfl,R,q⟩;refine ⟨B,w,ρ,S,rfl,R,?_⟩;unfold sIf at q
 cases hg:fc ρ S with
 | bad=>rwa [hg] at q
 | exc c S1=>rw [hg] at q;exact fun w' R' F'=>q σ w' R' F'
 | ok d S1 =>
  rw [hg] at q;dsimp only at q ⊢
  cases hb:isB d with
  | none=>rw [hb] at q;exact q.elim
  | some b =>
   rw [hb] at q;intro w1 R1 F1
   cases b with
   | true=>exact zno ⟨B,w1,ρ,S1,rfl,R1,zig.up F1 q⟩
   | false=>exact znp ⟨B,w1,ρ,S1,rfl,R1,zig.up F1 q⟩
end
noncomputable def zll(i:Nat)(fe:Fe):Fs:=fun ρ S=>match ρ[i]? with
 | some (some (true,.lst l))=>(match fe ρ S with
  | .ok d S'=>if zaN l.length then .nx (ρ.set i (some (true,.lst (l++[d])))) S' else .bad
  | .exc c S'=>.ex c ρ S' | .bad=>.bad)
 | _=>.bad
section
variable{X:Cx}{cl:Cf}{E:St->XK}{own:Bool}{e:Expr}{fe:Fe}{pos pos':Pos}
def zhB{n:Nat}(h:zaN n=true):n<sizeLine:=Nat.lt_of_le_of_lt (yaj h) (by decide)
def Rel.list{B:Base}{σ:St}{w:Wd}{ρ:Env}{S:Sto}{i:Nat}{l:List D}(R:Rel cl B σ w ρ S)(h:ρ[i]?=some (some (true,.lst l))):∃a xs,σ[i]?=some (some (.ref a))/\w.ow a=some (.slot i)/\w.H a=some (.lst xs)/\Shds cl w xs l:=by
 obtain ⟨v,e1,a,o,rfl,h1,h2,t⟩:=R.slots i true _ h
 cases t with
 | lst t=>exact ⟨a,_,e1,h1,h2,t⟩
def zqe{i:Nat}{x:Str}{ap cp:Pos}(hN:X.N[i]?=some x)(hv:Vis X.env.scope x)(hd:(x == ("__debug__":Str))=false)(hcd:(x == ("__classdict__":Str))=false)(he:PE X e (tE cl E fe))
  (hpl:zbd e=true) (hln:(ap.endLine == cp.line)=true):PS X (.Expr (.Call (.Attribute (.Name x pos') "append" ap) [e] [] cp) pos) (tS cl E own (zll i fe)):=by
 refine PS.imp (zfk (zlI (es:=[]) ybS PySem.F.slot_list_append PySem.F.type_list_append zj3 (zbl hN hv hd hcd) (za9 he zch (zaB hpl)) (hfew:=zev (by simp [hpl]) (by simp)) (hline:=hln) (hs:=zaB hpl) (hplain:=rfl))) ?_;rintro De σ H ⟨B,w,ρ,S,rfl,R,q⟩;unfold zll at q;split at q
 ·rename_i l hl;obtain ⟨a,xs,e1,h1,h2,t⟩:=R.list hl;refine ⟨_,e1,.inl ⟨rfl,_,SqL.of h2⟩,B,w,ρ,S,rfl,R,?_⟩
  cases hf:fe ρ S with
  | bad=>rwa [hf] at q
  | exc c S1=>rw [hf] at q;exact fun w' R' F'=>q σ w' R' F'
  | ok d S1 =>
   rw [hf] at q;intro v w' R' F' h';dsimp only at q
   cases hz:zaN l.length with
   | false=>rw [hz,if_neg (by decide)] at q;exact q.elim
   | true =>
    rw [hz,if_pos rfl] at q;obtain ⟨a',xs',e1',h1',h2',t'⟩:=R'.list hl;rw [e1] at e1';cases e1';refine ⟨a,xs',v,rfl,rfl,h2',by rw [t'.length];exact zhB hz,?_⟩;exact q σ (w'.mut a (.lst (xs'++[v]))) (R'.mut (d0:=.non) e1 h1' (.lst (t'.append (.cons h' .nil)))) (F'.trans (zcj (by rw [h1'];exact yaC _)))
 ·exact q.elim
end
end S2
namespace L2
open PySem PySem.Spec PyProof.Rows
section
variable{prog:Program}{w:World}{A:Around}{E:Z5}{s:Shared}
end
section
variable{X:Cx}{pins:Z3}{σ:St}{H:Hp}{s:Shared}
end
end L2
namespace S2
open PySem PySem.Spec PyProof.Rows L2
structure ItOk(cl:Cf)(w:Wd)(J:It)(ds:List D):Prop where
 go:∀w',Fut w w'->∀i,i<ds.length->J.go i w'.H
 stop:∀w',Fut w w'->J.stop ds.length w'.H
 yld:∀w',Fut w w'->∀i d x H',ds[i]?=some d->J.yld i w'.H x H'->∃w'',w''.H=H'/\Grow w' w''/\Shd cl w'' x d
noncomputable abbrev Fi:=Env->Sto->Out (List D)
noncomputable def tI(cl:Cf)(E:St->XK)(f:Fi):TI:=fun σ H R'=>∃B w ρ S,w.H=H/\Rel cl B σ w ρ S/\match f ρ S with
 | .ok ds S'=>∀J w',Rel cl B σ w' ρ S'->Fut w w'->ItOk cl w' J ds->R' J w'.H
 | .exc c S'=>∀w',Rel cl B σ w' ρ S'->Fut w w'->E σ (.ref (cl c)) none w'.H
 | .bad=>False
def PI.imp{X:Cx}{tg it:Expr}{t t':TI}(h:PI X tg it t)(i:∀σ H Q,t' σ H Q->t σ H Q):PI X tg it t':=fun pins s σ H Q I q=>h pins s σ H Q I (i _ _ _ q)
inductive Tg where | one (i:Nat) | tup (is:List Nat)
noncomputable def zdL:List Nat->List D->Env->Option Env
 | [],[],ρ=>some ρ
 | i::is,d::ds,ρ=>zdL is ds (ρ.set i (some (false,d)))
 | _,_,_=>none
noncomputable def Tg.put:Tg->Env->D->Option Env
 | .one i,ρ,d=>some (ρ.set i (some (false,d)))
 | .tup is,ρ,.tup ds=>zdL is ds ρ
 | .tup _,_,_=>none
noncomputable def tG(cl:Cf)(n:Nat)(tg:Tg):TG:=fun v σ H Q=>∃B w ρ S d ρ',w.H=H/\Rel cl B σ w ρ S/\Shd cl w v d/\tg.put ρ d=some ρ'/\∀σ',σ'.length=σ.length->σ'.drop n=σ.drop n->Rel cl B σ' w ρ' S->Q σ' w.H
def PG.imp{X:Cx}{tg:Expr}{t t':TG}(h:PG X tg t)(i:∀v σ H Q,t' v σ H Q->t v σ H Q):PG X tg t':=fun pins s σ H v u Q I r q=>h pins s σ H v u Q I r (i _ _ _ _ q)
noncomputable def zeL(tg:Tg)(body:Fs):List D->Env->Sto->Fo
 | [],ρ,S=>.nx ρ S
 | d::ds,ρ,S=>match tg.put ρ d with
  | none=>.bad
  | some ρ1=>match body ρ1 S with
   | .nx ρ' S'=>zeL tg body ds ρ' S'
   | .ct ρ' S'=>zeL tg body ds ρ' S'
   | .bk ρ' S'=>.nx ρ' S'
   | o=>o
noncomputable def zgY(tg:Tg)(it:Fi)(body:Fs):Fs:=fun ρ S=>match it ρ S with
 | .ok ds S'=>zeL tg body ds ρ S'
 | .exc c S'=>.ex c ρ S'
 | .bad=>.bad
section
variable{X:Cx}{cl:Cf}{E:St->XK}{own:Bool}{e iter tg:Expr}{body:List Stmt}{fb:Fs}{fi:Fi}{fc:Fe}{t:Tg}{pos:Pos}
def zh2{α:Type}{n i:Nat}{l:List α}{a:α}(h:i<n):(l.set i a).drop n=l.drop n:=by
 refine yby fun k=>?_
 rw [ybt,ybt,ya2 (by omega)]
def zqm{n i:Nat}{x:Str}(hin:i<n)(hN:X.N.Nodup)(hi:X.N[i]?=some x)(hx:Loc X.env.scope x)(hf:X.fn x=true\/X.env.scope.names.lookup x=some .local):PG X (.Name x pos) (tG cl n (.one i)):=by
 refine PG.imp (zfn hN hi hx hf) ?_;rintro v σ H Q ⟨B,w,ρ,S,d,ρ',rfl,R,h,hp,q⟩;cases hp;exact q _ (yaI ..) (zh2 hin) (R.put h)
noncomputable def tGs(cl:Cf)(n:Nat)(is:List Nat):TGs:=fun vs σ H Q=>∃B w ρ S ds ρ',w.H=H/\Rel cl B σ w ρ S/\Shds cl w vs ds/\zdL is ds ρ=some ρ'/\∀σ',σ'.length=σ.length->σ'.drop n=σ.drop n->Rel cl B σ' w ρ' S->Q σ' w.H
def zn7{n:Nat}:PGs X [] (tGs cl n []):=by
 intro pins s σ H vs us Q I r h;obtain ⟨B,w,ρ,S,ds,ρ',rfl,R,hs,hp,q⟩:=h
 cases hs with
 | nil =>
  cases hp;exact zjO pins s σ w.H [] us Q I r ⟨rfl,q σ rfl rfl R⟩
 | cons _ _=>cases hp
def zlh{n i:Nat}{is:List Nat}{x:Str}{es:List Expr}(hin:i<n)(hN:X.N.Nodup)(hi:X.N[i]?=some x)(hx:Loc X.env.scope x)(hf:X.fn x=true\/X.env.scope.names.lookup x=some .local)(h2:PGs X es (tGs cl n is)):PGs X (.Name x pos::es) (tGs cl n (i::is)):=by
 intro pins s σ H vs us Q I r h;obtain ⟨B,w,ρ,S,ds,ρ',rfl,R,hs,hp,q⟩:=h;refine zfm (zfn hN hi hx hf) h2 rfl pins s σ w.H vs us Q I r ?_
 cases hs with
 | nil=>cases hp
 | cons h t =>
  rename_i v d vs ds;exact ⟨v,vs,rfl,B,w,_,S,ds,ρ',rfl,R.put h,t,hp,fun σ' e1 e2=>q σ' (e1.trans (yaI ..)) (e2.trans (zh2 hin))⟩
def zql{es:List Expr}{n k:Nat}{is:List Nat}(hc:X.calm=true)(h:PGs X es (tGs cl n is))(hn:(assignEach es X.env).length=is.length)(hst:(assignEach es X.env).findIdx? (·.1)=none):PG X (.Tuple es k pos) (tG cl n (.tup is)):=by
 refine PG.imp (zm9 hc h hn hst) ?_;rintro v σ H Q ⟨B,w,ρ,S,d,ρ',rfl,R,h,hp,q⟩
 cases h with
 | tup e k r =>
  have hl:∀(is:List Nat) (ds:List D) (ρ ρ':Env),zdL is ds ρ=some ρ'->ds.length=is.length:=by
   intro is
   induction is with
   | nil=>intro ds ρ ρ' h;cases ds with
    | nil=>rfl
    | cons _ _=>cases h
   | cons i is ih=>intro ds ρ ρ' h;cases ds with
    | nil=>cases h
    | cons d ds=>rw [yap,yap,ih ds _ _ h]
  rename_i a xs ds;refine ⟨a,xs,rfl,SqT.of e,by rw [r.length];exact hl is ds ρ ρ' hp,B,w,ρ,S,ds,ρ',rfl,R,r,hp,q⟩
 | _=>cases hp
def zp9{n:Nat}(hp:PassesOwn (model X.prog X.w) X.A X.env X.xe)(hc:X.calm=true)(hi:PI X tg iter (tI cl E fi))(hg:PG X tg (tG cl n t))(hb:PSs X body (tS cl E own fb))(hs:∀x,foldedSetIterable iter X.env x=pure x):PS X (.For tg iter body [] pos) (tS cl E own (zgY t fi fb)):=by
 refine PS.imp (zqU hp hc hi hg hb hs) ?_;rintro De σ H ⟨B,w,ρ,S,rfl,R,q⟩;refine ⟨B,w,ρ,S,rfl,R,?_⟩;unfold zgY at q
 cases hf:fi ρ S with
 | bad=>rwa [hf] at q
 | exc c S1=>rw [hf] at q;exact fun w' R' F'=>q σ w' R' F'
 | ok ds S1 =>
  rw [hf] at q;intro J w0 R0 F0 hJ;dsimp only at q;refine ⟨fun i m σ' H'=>m=ds.length-i/\i<=ds.length/\∃w1 ρ1 S2,w1.H=H'/\Fut w0 w1/\Rel cl B σ' w1 ρ1 S2/\zig cl E own B w1 De (zeL t fb (ds.drop i) ρ1 S2),⟨ds.length,by simp,yaL _,w0,ρ,S1,rfl,Fut.refl _,R0,by rw [List.drop_zero];exact zig.up F0 q⟩,?_⟩;rintro i m σ1 H1 ⟨rfl,hi,w1,ρ1,S2,rfl,F1,R1,q1⟩
  by_cases hlt:i<ds.length
  ·obtain ⟨d,hd⟩:∃d,ds[i]?=some d:=⟨ds[i],yad hlt⟩
   have hdr:ds.drop i=d::ds.drop (i+1):=by
    rw [List.drop_eq_getElem_cons hlt];rw [yad hlt] at hd;cases hd;rfl
   rw [hdr] at q1;unfold zeL at q1
   cases hp1:t.put ρ1 d with
   | none=>rw [hp1] at q1;exact q1.elim
   | some ρ2 =>
    rw [hp1] at q1;dsimp only at q1;refine .inr ⟨hJ.go w1 F1 i hlt,fun σ' H'=>i+1<=ds.length/\∃w1 ρ1 S2,w1.H=H'/\Fut w0 w1/\Rel cl B σ' w1 ρ1 S2/\zig cl E own B w1 De (zeL t fb (ds.drop (i+1)) ρ1 S2),fun σ' H' h'=>⟨ds.length-(i+1),by omega,rfl,h'.1,h'.2⟩,fun x H' y=>?_⟩;obtain ⟨w2,rfl,g2,s2⟩:=hJ.yld w1 F1 i d x H' hd y;refine ⟨B,w2,ρ1,S2,d,ρ2,rfl,R1.grow g2,s2,hp1,fun σ2 _ _ R2=>⟨B,w2,ρ2,S2,rfl,R2,?_⟩⟩;have q2:=zig.up g2.fut q1
    cases hb:fb ρ2 S2 with
    | bad=>rwa [hb] at q2
    | rt d S3=>rwa [hb] at q2
    | ex c ρ3 S3=>rwa [hb] at q2
    | bk ρ3 S3=>rw [hb] at q2;exact fun σ3 w3 R3 F3=>q2 σ3 w3 R3 F3
    | nx ρ3 S3=>rw [hb] at q2;exact fun σ3 w3 R3 F3=>⟨hlt,w3,ρ3,S3,rfl,F1.trans (g2.fut.trans F3),R3,zig.up F3 q2⟩
    | ct ρ3 S3=>rw [hb] at q2;exact fun σ3 w3 R3 F3=>⟨hlt,w3,ρ3,S3,rfl,F1.trans (g2.fut.trans F3),R3,zig.up F3 q2⟩
  ·have e:i=ds.length:=by omega
   subst e;rw [List.drop_length] at q1;exact .inl ⟨hJ.stop w1 F1,q1 σ1 w1 R1 (Fut.refl _)⟩
noncomputable def zh1(f:Fe):Fi:=fun ρ S=>(f ρ S).bind fun d S1=>match d with | .lst l=>.ok l S1 | _=>.bad
noncomputable def zhl(f:Fe):Fi:=fun ρ S=>(f ρ S).bind fun d S1=>match d with | .tup l=>.ok l S1 | _=>.bad
def zjn(he:PE X e (tE cl E fc)):PI X tg e (tI cl E (zh1 fc)):=by
 refine PI.imp (zow he) ?_;rintro σ H Q ⟨B,w,ρ,S,rfl,R,q⟩;refine ⟨B,w,ρ,S,rfl,R,?_⟩;unfold zh1 at q
 cases hf:fc ρ S with
 | bad=>rwa [hf] at q
 | exc c S1=>rwa [hf] at q
 | ok d S1 =>
  rw [hf] at q;intro v w' R' F' h';dsimp only [Out.bind] at q
  cases h' with
  | lst e k r =>
   rename_i a xs ds;refine ⟨a,rfl,⟨xs,SqL.of e⟩,q _ w' R' F' ?_⟩;have hl:=r.length;refine ⟨fun w1 F1 i hi=>⟨xs,xs[i]'(by omega),SqL.of (F1.keep _ _ e k).1,yad (by omega)⟩,fun w1 F1=>⟨xs,SqL.of (F1.keep _ _ e k).1,by omega⟩,fun w1 F1 i d x H1 hd y=>?_⟩;obtain ⟨rfl,hy⟩:=y;have hx:=hy xs (SqL.of (F1.keep _ _ e k).1);obtain ⟨d',e1,e2⟩:=r.get hx;rw [hd] at e1;cases e1;exact ⟨w1,rfl,Grow.refl _,e2.up F1⟩
  | _=>exact q.elim
def zqh(he:PE X e (tE cl E fc)):PI X tg e (tI cl E (zhl fc)):=by
 refine PI.imp (zqX he) ?_;rintro σ H Q ⟨B,w,ρ,S,rfl,R,q⟩;refine ⟨B,w,ρ,S,rfl,R,?_⟩;unfold zhl at q
 cases hf:fc ρ S with
 | bad=>rwa [hf] at q
 | exc c S1=>rwa [hf] at q
 | ok d S1 =>
  rw [hf] at q;intro v w' R' F' h';dsimp only [Out.bind] at q
  cases h' with
  | tup e k r =>
   rename_i a xs ds;refine ⟨a,rfl,⟨xs,SqT.of e⟩,q _ w' R' F' ?_⟩;have hl:=r.length;refine ⟨fun w1 F1 i hi=>⟨xs,xs[i]'(by omega),SqT.of (F1.keep _ _ e k).1,yad (by omega)⟩,fun w1 F1=>⟨xs,SqT.of (F1.keep _ _ e k).1,by omega⟩,fun w1 F1 i d x H1 hd y=>?_⟩;obtain ⟨rfl,hy⟩:=y;have hx:=hy xs (SqT.of (F1.keep _ _ e k).1);obtain ⟨d',e1,e2⟩:=r.get hx;rw [hd] at e1;cases e1;exact ⟨w1,rfl,Grow.refl _,e2.up F1⟩
  | _=>exact q.elim
noncomputable def zao(lo hi:Int):List D:=(List.range (hi-lo).toNat).map fun (i:Nat)=>.int (lo+i)
noncomputable def zcZ(f:Fe):Fi:=fun ρ S=>(zah [f] ρ S).bind fun ds S1=>match ds with | [.int j]=>if -1000000<=j/\j<=1000000 then .ok (zao 0 j) S1 else .bad | _=>.bad
noncomputable def zkE(f g:Fe):Fi:=fun ρ S=>(zah [f,g] ρ S).bind fun ds S1=>match ds with | [.int i,.int j]=>if (-1000000<=i/\i<=1000000)/\-1000000<=j/\j<=1000000 then .ok (zao i j) S1 else .bad | _=>.bad
def znn{w:Wd}{lo hi:Int}{n:Nat}(hn:n=(hi-lo).toNat):ItOk cl w (Itr lo n) (zao lo hi):=by
 subst hn
 have hl:(zao lo hi).length=(hi-lo).toNat:=by unfold zao;rw [yaf,ycI]
 refine ⟨fun w1 F1 i h=>by rw [hl] at h;exact h,fun w1 F1=>by rw [hl];exact yah _,fun w1 F1 i d x H1 hd y=>?_⟩;obtain ⟨rfl,rfl⟩:=y;unfold zao at hd;rw [yas] at hd
 cases hr:(List.range (hi-lo).toNat)[i]? with
 | none=>rw [hr] at hd;cases hd
 | some j =>
  rw [hr] at hd;have:=(yam.mp hr).2;rw [List.getElem_range] at this;subst this;cases hd;exact ⟨w1,rfl,Grow.refl _,.int _⟩
def zn4{p:Pos}(hg:Gl X "range")(hm:X.mg "range" = none)(ha:PA X [e] (tAs cl E [fc]))(hs:starEach [e] X.env=[(false,eval e X.env)]):PI X tg (.Call (.Name "range" p) [e] [] pos) (tI cl E (zcZ fc)):=by
 refine PI.imp (zjN hg hm ha hs) ?_;rintro σ H Q ⟨B,w,ρ,S,rfl,R,q⟩;refine ⟨B,w,ρ,S,rfl,R,?_⟩;unfold zcZ at q
 cases hf:zah [fc] ρ S with
 | bad=>rwa [hf] at q
 | exc c S1=>rwa [hf] at q
 | ok ds S1 =>
  rw [hf] at q;intro vs w' R' F' h';dsimp only [Out.bind] at q;split at q
  ·rename_i ds' S' hm';split at hm'
   ·rename_i j;split at hm'
    ·rename_i hb;cases hm'
     cases h' with
     | cons h1 h2 =>
      cases h1;cases h2;exact ⟨j,rfl,by omega,by omega,q _ w' R' F' (znn (by omega))⟩
    ·cases hm'
   ·cases hm'
  ·rename_i hm';split at hm'<;>first | (split at hm'<;>cases hm') | cases hm'
  ·exact q.elim
def zn3{a:Expr}{fa:Fe}{p:Pos}(hg:Gl X "range")(hm:X.mg "range" = none)(ha:PA X [a,e] (tAs cl E [fa,fc]))(hs:starEach [a,e] X.env=[(false,eval a X.env),(false,eval e X.env)])(hs2:starEach [e] X.env=[(false,eval e X.env)]):PI X tg (.Call (.Name "range" p) [a,e] [] pos) (tI cl E (zkE fa fc)):=by
 refine PI.imp (zjM hg hm ha hs hs2) ?_;rintro σ H Q ⟨B,w,ρ,S,rfl,R,q⟩;refine ⟨B,w,ρ,S,rfl,R,?_⟩;unfold zkE at q
 cases hf:zah [fa,fc] ρ S with
 | bad=>rwa [hf] at q
 | exc c S1=>rwa [hf] at q
 | ok ds S1 =>
  rw [hf] at q;intro vs w' R' F' h';dsimp only [Out.bind] at q;split at q
  ·rename_i ds' S' hm';split at hm'
   ·rename_i i j;split at hm'
    ·rename_i hb;cases hm'
     cases h' with
     | cons h1 h2 =>
      cases h1
      cases h2 with
      | cons h2 h3 =>
       cases h2;cases h3;exact ⟨i,j,rfl,by omega,q _ w' R' F' (znn rfl)⟩
    ·cases hm'
   ·cases hm'
  ·rename_i hm';split at hm'<;>first | (split at hm'<;>cases hm') | cases hm'
  ·exact q.elim
end
end S2
namespace S2
open PySem PySem.Spec PyProof.Rows L2
noncomputable def zsc(ρ:Env)(i:Nat):Option (Bool×D):=match ρ[i]? with | some (some (false,d))=>some (false,d) | _=>none
noncomputable def zbn(n:Nat)(caps:List Nat)(ρ:Env):Env:=List.replicate n none++caps.map (zsc ρ)
noncomputable def zd8:Fe:=zas (.bl true)
noncomputable def zbo(tg:Tg)(c elt:Fe)(ρ0:Env):List D->Sto->Out (List D)
 | [],S=>.ok [] S
 | d::ds,S=>match tg.put ρ0 d with
  | none=>.bad
  | some ρ1=>(c ρ1 S).bind fun b S1=>match isB b with
   | some true=>(elt ρ1 S1).bind fun y S2=>(zbo tg c elt ρ0 ds S2).bind fun ys S3=>.ok (y::ys) S3
   | some false=>zbo tg c elt ρ0 ds S1
   | none=>.bad
noncomputable def zb0(n:Nat)(tg:Tg)(it:Fi)(c elt:Fe)(caps:List Nat):Fe:=fun ρ S=>(it ρ S).bind fun ds S1=>match zbo tg c elt (zbn n caps ρ) ds S1 with
 | .ok ys S2=>if zaN ys.length then .ok (.lst ys) S2 else .bad
 | _=>.bad
noncomputable abbrev noE:St->XK:=fun _ _ _ _=>False
section
variable{cl:Cf}
def zku{B:Base}{σ:St}{w w1:Wd}{ρ:Env}{S S1:Sto}{n:Nat}{caps:List (Str×Nat)}(R:Rel cl B σ w ρ S){B1:Base}(W1:World' cl B1 w1 S1)(F1:Fut w w1){σ':St}(hσ:σ'.length=n+caps.length)(hc:σ'.drop n=caps.map fun p=>(σ[p.2]?).join) :
  Rel cl B1 σ' w1 (zbn n (caps.map (·.2)) ρ) S1 where
 wd:=W1
 len:=by unfold zbn;rw [hσ,yav,yaV,yaf,yaf]
 slots:=fun i o d h=>by
  unfold zbn at h
  by_cases hi:i<n
  ·rw [yaP (by rw [yaV];exact hi),ybQ] at h
   split at h<;>cases h
  ·rw [yaz (by rw [yaV];omega),yaV,yaT,yas] at h
   cases hp:caps[i-n]? with
   | none=>rw [hp] at h;cases h
   | some p =>
    rw [hp] at h;have h':zsc ρ p.2=some (o,d):=Option.some.inj h;unfold zsc at h';split at h'
    ·rename_i d' hd;cases h';obtain ⟨v,e,x⟩:=R.slots p.2 false d hd;refine ⟨v,?_,Shd.up F1 x⟩;have:=congrArg (fun l=>l[i-n]?) hc;rw [ybt,yas,hp] at this;rw [show n+(i-n)=i by omega] at this;rw [this];show some ((σ[p.2]?).join)=_;rw [e];rfl
    ·cases h'
end
section
variable{X:Cx}{cl:Cf}{E:St->XK}
def zny{fi:Fi}{t:Tg}{fc fe:Fe}{n:Nat}{caps:List (Str×Nat)}{σ:St}{H:Hp}{Q:VK}(q:tN cl E (zb0 n t fi fc fe (caps.map (·.2))) σ H Q) :
  zhA (tI cl E fi) (tG cl n t) (tTr cl noE fc) (tE cl noE fe) n caps σ H Q:=by
 obtain ⟨B,w,ρ,S,rfl,R,q⟩:=q;refine ⟨B,w,ρ,S,rfl,R,?_⟩;unfold zb0 at q
 cases hf:fi ρ S with
 | bad=>rwa [hf] at q
 | exc c S1=>rwa [hf] at q
 | ok ds S1 =>
  rw [hf] at q;dsimp only [Out.bind] at q;intro J w0 R0 F0 hJ
  cases hcd:zbo t fc fe (zbn n (caps.map (·.2)) ρ) ds S1 with
  | bad=>rw [hcd] at q;exact q.elim
  | exc _ _=>rw [hcd] at q;exact q.elim
  | ok all Sf =>
   rw [hcd] at q;dsimp only at q
   cases hz:zaN all.length with
   | false=>rw [hz,if_neg (by decide)] at q;exact q.elim
   | true =>
    rw [hz,if_pos rfl] at q;dsimp only at q;refine ⟨fun i m ys σ' H'=>m=ds.length-i/\i<=ds.length/\σ'.length=n+caps.length/\σ'.drop n=(caps.map fun p=>(σ[p.2]?).join)/\∃w1 S2 es zbt,w1.H=H'/\Fut w0.inn w1/\World' cl w0.base w1 S2/\Shds cl w1 ys es/\zbo t fc fe (zbn n (caps.map (·.2)) ρ) (ds.drop i) S2=.ok zbt Sf/\es++zbt=all,⟨ds.length,by simp,yaL _,by simp [capσ],by simp [capσ],w0.inn,S1,[],all,rfl,Fut.refl _,R0.wd.enter,.nil,by rw [List.drop_zero];exact hcd,rfl⟩,?_⟩;rintro i m ys σ1 H1 ⟨rfl,hi,hl1,hd1,w1,S2,es,zbt,rfl,F1,W1,sh,hrest,hall⟩;refine ⟨?_,?_⟩
    ·rw [sh.length];refine yaq ?_ (zaM hz);rw [<-hall,yav];omega
    have F1':Fut w0 w1:=(zbP w0).trans F1
    by_cases hlt:i<ds.length
    ·obtain ⟨d,hdi⟩:∃d,ds[i]?=some d:=⟨ds[i],yad hlt⟩
     have hdr:ds.drop i=d::ds.drop (i+1):=by
      rw [List.drop_eq_getElem_cons hlt];rw [yad hlt] at hdi;cases hdi;rfl
     rw [hdr] at hrest;unfold zbo at hrest;refine .inr ⟨hJ.go w1 F1' i hlt,fun x H' y=>?_⟩;obtain ⟨w2,rfl,g2,s2⟩:=hJ.yld w1 F1' i d x H' hdi y;have R1:Rel cl w0.base σ1 w2 (zbn n (caps.map (·.2)) ρ) S2:=zku R0 (W1.grow g2) (F1'.trans g2.fut) hl1 hd1
     cases hp:t.put (zbn n (caps.map (·.2)) ρ) d with
     | none=>rw [hp] at hrest;cases hrest
     | some ρ1 =>
      rw [hp] at hrest;dsimp only at hrest;refine ⟨w0.base,w2,_,S2,d,ρ1,rfl,R1,s2,hp,fun σ2 hk1 hk2 R2=>⟨w0.base,w2,ρ1,S2,rfl,R2,?_⟩⟩
      cases hc:fc ρ1 S2 with
      | bad=>rw [hc] at hrest;cases hrest
      | exc _ _=>rw [hc] at hrest;cases hrest
      | ok b S3 =>
       rw [hc] at hrest;dsimp only [Out.bind] at hrest ⊢
       cases hb:isB b with
       | none=>rw [hb] at hrest;cases hrest
       | some bb =>
        rw [hb] at hrest;intro w3 R3 F3
        cases bb with
        | false=>exact znp ⟨ds.length-(i+1),by omega,rfl,hlt,hk1.trans hl1,hk2.trans hd1,w3,S3,es,zbt,rfl,F1.trans (g2.fut.trans F3),R3.wd,sh.up (g2.fut.trans F3),hrest,hall⟩
        | true =>
         refine zno ⟨w0.base,w3,ρ1,S3,rfl,R3,?_⟩;dsimp only at hrest
         cases he:fe ρ1 S3 with
         | bad=>rw [he] at hrest;cases hrest
         | exc _ _=>rw [he] at hrest;cases hrest
         | ok yv S4 =>
          rw [he] at hrest;dsimp only at hrest
          cases hr:zbo t fc fe (zbn n (caps.map (·.2)) ρ) (ds.drop (i+1)) S4 with
          | bad=>rw [hr] at hrest;cases hrest
          | exc _ _=>rw [hr] at hrest;cases hrest
          | ok zs S5 =>
           rw [hr] at hrest;cases hrest;intro v w4 R4 F4 h4;have ff:=g2.fut.trans (F3.trans F4);exact ⟨ds.length-(i+1),by omega,rfl,hlt,hk1.trans hl1,hk2.trans hd1,w4,S4,es++[yv],zs,rfl,F1.trans ff,R4.wd,(sh.up ff).append (.cons h4 .nil),hr,by rw [<-hall,ybN];rfl⟩
    ·have e:i=ds.length:=by omega
     subst e;rw [List.drop_length] at hrest;cases hrest;rw [yaG] at hall;subst hall;refine .inl ⟨hJ.stop w1 F1',fun p hp=>?_⟩;obtain ⟨Rb,Fb⟩:=R0.leave W1 F1;exact q p (.lst ys) (w0.back w1) Rb (F0.trans Fb) hp (.lst (sh.up (zcC W1)))
end
end S2
namespace L2
open PySem PySem.Spec PyProof.Rows
section
variable{X:Cx}
end
end L2
namespace L2
open PySem PySem.Spec PyProof.Rows
noncomputable def CXE(P:Program)(w:World):CXT:=fun outer H s E e s'=>∃(a:Addr) (cls a0:Value) (H':Hp) (B:Heap),e=.ref a/\Heap.FlyingW B outer a cls a0 s'.heap ∧
 (∀b o,s'.heap.get? b=some o->H' b≠none->B.get? b=some o)/\(∀b o,s.heap.get? b=some o->H b=none->b ∉ frs outer->B.get? b=some o) ∧
 (∀b o,s.heap.get? b=some o->b ∉ frs outer->∃o',B.get? b=some o') ∧
 s'.os=s.os/\AllBare s'.gens/\Un (frs outer) [] H H' s.heap s'.heap/\HOk P w H' s'.heap/\E cls none H'
def za3.has{P:Program}{w:World}{H:Hp}{h:Heap}{a:Addr}{o:HO}(x:za3 P w H h a o):∃ob,h.get? a=some ob:=by
 cases o with
 | lst xs=>obtain ⟨_,_,_,_,e⟩:=x;exact ⟨_,e⟩
 | tup xs=>obtain ⟨_,_,_,ob,e,_⟩:=x;exact ⟨_,e⟩
 | dK kvs=>obtain ⟨_,_,_,_,o,_,_,e,_⟩:=x;exact ⟨_,e⟩
 | dT kvs=>obtain ⟨_,_,_,_,o,_,_,e,_⟩:=x;exact ⟨_,e⟩
 | set S n=>obtain ⟨o,_,_,_,e,_⟩:=x;exact ⟨_,e⟩
 | ins C dx fs=>obtain ⟨_,_,_,e,_⟩:=x;exact ⟨_,e⟩
 | own y=>exact x
 | xd fs=>obtain ⟨_,⟨_,_,_,e,_⟩,_⟩:=x;exact ⟨_,e⟩
 | rng lo hi=>obtain ⟨_,_,_,e⟩:=x;exact ⟨_,e⟩
 | frz ob u=>obtain ⟨e,_⟩:=x;exact ⟨_,e⟩
 | tbl ps=>exact ⟨_,(show h.get? a=some _ from x)⟩
 | met f y=>exact ⟨_,(show h.get? a=some _ from x)⟩
 | ext φ=>obtain ⟨_,e,_⟩:=x;exact e
def HOk.same{P:Program}{w:World}{H:Hp}{h h':Heap}(x:HOk P w H h)(k:∀b u,h.get? b=some u->H b≠none->h'.get? b=some u):HOk P w H h':=fun a o e =>
 (x a o e).stay (fun b u hb q=>k b u q (hb.elim (fun z=>by rw [z,e];exact yaC _) (fun z=>by rw [z];exact yaC _))) (fun _ q=>q) fun _ _ q=>q
section
variable{X:Cx}{pins:Z3}{σ:St}{H:Hp}{s:Shared}{M:Model}
def zmm(l:List Env):∀env∈l,∀b,env.frame=some b->b∈frs l:=fun env he b hb=>yb2.mpr ⟨env,he,hb⟩
def ziG{h':Heap}{e:Addr}{cls:Value}{vs:List Value}{E:XK}{Er:Z5}(I:Inv X pins σ H s)(hx:X.ex=[])(hs:X.stack=X.env::X.outer)(hf:X.env.frame=some X.env.locals)(mk:Heap.MadeExcOf s.heap h' e cls vs)(q:E cls none H) :
  wpAny M X.A (leaving X.env (.ref e)) (fun _ s''=>CXE X.prog X.w X.outer X.H₀ X.s₀ E (.ref e) s'') Er { s with heap:=h' }:=by
 have hfr:X.A.frames=some (X.env::X.outer):=by rw [<-hs];exact I.ok.frames
 have hst:s.heap.FunFrames X.base (X.env::X.outer):=by rw [<-hs];exact I.stack
 refine wpAny_leaves_madeW (base:=PySem.W.hideAll s.heap (frs (X.env::X.outer))) hfr hf (fun b o z=>PySem.W.of_hideAll _ z) (PySem.W.funFrames_hide hst (zmm _)) mk fun h2 t fl tup _ up=>?_
 have inB:∀b o,s.heap.get? b=some o->b ∉ frs (X.env::X.outer)->(PySem.W.hideAll s.heap (frs (X.env::X.outer))).get? b=some o:=fun b o z n=>PySem.W.hideAll_get _ z n
 have sub:∀b,b∈frs (X.env::X.outer)->b=X.env.locals\/b∈X.fs:=fun b hb=>by
  rw [<-hs] at hb;exact yat.mp (I.stkSub b hb)
 have fre:∀b,b∈frs (X.env::X.outer)->H b=none:=fun b hb=>by rw [<-hs] at hb;exact I.stkFree b hb
 have old:∀b o,X.s₀.heap.get? b=some o->b ∉ frs X.outer->b ∉ frs (X.env::X.outer):=fun b o z n hb=>by
  rcases sub b hb with r | r
  ·exact absurd (yal (yan z) I.ok.above) (by rw [r];exact ya4 _)
  ·exact n r
 have nx:∀b:Addr,b ∉ X.ex:=fun b z=>by rw [hx] at z;cases z
 have trk:∀b o,s.heap.get? b=some o->H b≠none->h2.get? b=some o:=fun b o z n=>fl.1 b o (inB b o z fun hb=>n (fre b hb))
 have hok2:HOk X.prog X.w H h2:=I.hok.same trk
 have slt:∀b o,s.heap.get? b=some o->b∈frs X.stack->∃sl,h2.get? b=some { o with slots:=sl }:=fun b o z hb=>by
  obtain ⟨_,o',z',hd⟩:=I.stack.mem hb;rw [z] at z';cases z';exact up b o (mk.keeps b o z) hd
 have un2:Un (frs X.stack) [] H H s.heap h2:=⟨fun b o z n hb _=>fl.1 b o (inB b o z (by rw [<-hs];exact hb)),fun b o z n hb _=>slt b o z hb,fun b o z n _=>n,
  fun b o z _=>by
   by_cases hb:b∈frs X.stack
   ·obtain ⟨sl,r⟩:=slt b o z hb;exact ⟨_,r⟩
   ·exact ⟨o,fl.1 b o (inB b o z (by rw [<-hs];exact hb))⟩,
  fun _ _ z=>z,fun _ _ _ z=>z,fun _ ps z=>⟨#[],by rw [z,Array.append_empty]⟩⟩
 have J:=I.call (g':=s.gens) (t':=s.toks) (d':=s.drawn) (ch:=[]) un2 hok2 I.bare (fun b z=>absurd z (by simp));refine ⟨e,cls,.ref t,H,_,rfl,fl,fun b o z n=>?_,fun b o z n hb=>?_,fun b o z hb=>?_,J.os,J.bare,?_,J.hok,q⟩
 ·cases k:H b with
  | none=>exact absurd k n
  | some u =>
   obtain ⟨o',z'⟩:=(I.hok b u k).has;have:=trk b o' z' n;rw [show h2.get? b=some o from z] at this;cases this;exact inB b o z' fun hb=>n (fre b hb)
 ·exact inB b o (I.base.keep b o z n hb (nx b)) (old b o z hb)
 ·obtain ⟨o',z'⟩:=I.base.there b o z (nx b);exact ⟨o',inB b o' z' (old b o z hb)⟩
 ·have:=J.base;rwa [hx] at this
def zl3{e:Value}{s':Shared}{E:XK}{Er:Z5}(I:Inv X pins σ H s)(hx:X.ex=[])(hs:X.stack=X.env::X.outer)(hf:X.env.frame=some X.env.locals)(q:CXE X.prog X.w X.stack H s E e s') :
  wpAny M X.A (leaving X.env e) (fun _ s''=>CXE X.prog X.w X.outer X.H₀ X.s₀ E e s'') Er s':=by
 have hfr:X.A.frames=some (X.env::X.outer):=by rw [<-hs];exact I.ok.frames
 obtain ⟨a,cls,a0,H',B,rfl,fl,c1,c2,c3,os,bare,un,hok,q⟩:=q
 have fl':Heap.FlyingW B (X.env::X.outer) a cls a0 s'.heap:=by rw [<-hs];exact fl
 refine wpAny_leaves_onW hfr hf fl' fun h2 fl2 up=>?_
 have sub:∀b,b∈frs X.stack->b=X.env.locals\/b∈X.fs:=fun b hb=>yat.mp (I.stkSub b hb)
 have old:∀b o,X.s₀.heap.get? b=some o->b ∉ frs X.outer->b ∉ frs X.stack:=fun b o z n hb=>by
  rcases sub b hb with r | r
  ·exact absurd (yal (yan z) I.ok.above) (by rw [r];exact ya4 _)
  ·exact n r
 have nx:∀b:Addr,b ∉ X.ex:=fun b z=>by rw [hx] at z;cases z
 have trk:∀b o,s'.heap.get? b=some o->H' b≠none->h2.get? b=some o:=fun b o z n=>fl2.1 b o (c1 b o z n)
 have hok2:HOk X.prog X.w H' h2:=hok.same trk
 have slt:∀b o,s.heap.get? b=some o->H b=none->b∈frs X.stack->∃sl,h2.get? b=some { o with slots:=sl }:=fun b o z n hb=>by
  obtain ⟨_,o',z',hd⟩:=I.stack.mem hb;rw [z] at z';cases z';obtain ⟨sl,r⟩:=un.slot b o z n hb (by simp);obtain ⟨sl',r'⟩:=up b ({ o with slots:=sl }:Obj) r hd;exact ⟨sl',r'⟩
 have un2:Un (frs X.stack) [] H H' s.heap h2:=⟨fun b o z n hb _=>fl2.1 b o (c2 b o z n hb),fun b o z n hb _=>slt b o z n hb,un.free,
  fun b o z _=>by
   by_cases hb:b∈frs X.stack
   ·obtain ⟨sl,r⟩:=slt b o z (I.stkFree b hb) hb;exact ⟨_,r⟩
   ·obtain ⟨o',r⟩:=c3 b o z hb
    exact ⟨o',fl2.1 b o' r⟩,
  un.tups,un.frzs,un.tbls⟩
 have J:=I.call (g':=s'.gens) (t':=s'.toks) (d':=s'.drawn) (ch:=[]) un2 hok2 bare (fun b z=>absurd z (by simp));refine ⟨a,cls,a0,H',B,rfl,fl2,fun b o z n=>?_,fun b o z n hb=>?_,fun b o z hb=>?_,os.trans I.os,bare,?_,J.hok,q⟩
 ·cases k:H' b with
  | none=>exact absurd k n
  | some u =>
   obtain ⟨o',z'⟩:=(hok b u k).has;have:=trk b o' z' n;rw [show h2.get? b=some o from z] at this;cases this;exact c1 b o z' n
 ·exact c2 b o (I.base.keep b o z n hb (nx b)) (I.base.free b o z n (nx b)) (old b o z hb)
 ·obtain ⟨o',z'⟩:=I.base.there b o z (nx b);exact c3 b o' z' (old b o z hb)
 ·have:=J.base;rwa [hx] at this
end
def ztP{P:Program}{w:World}{K:PySem.W.Frag}{mg:Z6}{base:Heap}{N:List Str}{qual:Str}{scope:Scope}{f:Addr}{cd:Value}{A:Around}{outer:List Env}{s:Shared}{H:Hp}{E:XK} :
  zso (CXE P w) (zk9 (CXE P w) P w K mg base N qual scope f cd A outer s H E) E:=fun pins σ H1 s1 e s' I q =>
 zl3 (X:=zk9 (CXE P w) P w K mg base N qual scope f cd A outer s H E) I rfl rfl rfl q
noncomputable def zsn(X:Cx)(E:XK):Prop:=∀(C:Addr) (pins:Z3) (σ:St) (H:Hp) (s:Shared) (e:Addr) (h':Heap) (vs:List Value),Inv X pins σ H s->Heap.MadeExcOf s.heap h' e (.ref C) vs->E (.ref C) none H->X.xe (.ref e) { s with heap:=h' }
def zoj{P:Program}{w:World}{K:PySem.W.Frag}{mg:Z6}{base:Heap}{N:List Str}{qual:Str}{scope:Scope}{f:Addr}{cd:Value}{A:Around}{outer:List Env}{s:Shared}{H:Hp}{E:XK} :
  zsn (zk9 (CXE P w) P w K mg base N qual scope f cd A outer s H E) E:=fun C pins σ H1 s1 e h' vs I mk q =>
 ziG (X:=zk9 (CXE P w) P w K mg base N qual scope f cd A outer s H E) I rfl rfl rfl mk q
end L2
namespace L2
open PySem PySem.Spec PyProof.Rows
noncomputable def XP(X:Cx)(pins:Z3)(σ:St)(E:XK)(e:Value)(s':Shared):Prop:=∃H1 s1,Inv X pins σ H1 s1/\CXE X.prog X.w X.stack H1 s1 E e s'
section
variable{X:Cx}{k:Nat}{f C:Addr}{fd:FuncData}{ps:List Str}{sp:Sp}{dvs:List V}{ds:List Value}{x m:Str}{p pos apos:Pos}{e o:Expr}{es:List Expr}{ta:TE}{t:TA}
end
end L2
namespace L2
open PySem PySem.Spec PyProof.Rows
section
variable{X:Cx}{pins:Z3}{σ:St}{H:Hp}{s:Shared}
end
end L2
namespace L2
open PySem PySem.Spec PyProof.Rows
section
variable{X:Cx}{pins:Z3}{σ:St}{H H':Hp}{s s':Shared}{B h2:Heap}{a:Addr}{cls a0:Value}
noncomputable abbrev Cx.inH(X:Cx)(a:Addr):Cx:={ X with A:=X.A.mark (some (.ref a)),calm:=false,xe:=fun _ _=>False }
end
noncomputable def zpx(K:PySem.W.Frag)(C D:Addr):Prop:=(∃bC iC,PySem.W.excIn K C bC iC=true)/\∃cd d cl sl,K.lookup C=some ⟨cl,d,.cls cd,sl⟩/\cd.mro.contains (.ref D)=true
noncomputable def Ends.goes(D:Ends)(i:Nat):Ends:={ nx:=fun σ H=>D.nx (σ.set i none) H,rt:=D.rt,bk:=fun σ H=>D.bk (σ.set i none) H,ct:=fun σ H=>D.ct (σ.set i none) H }
end L2
namespace PySem.W
open PySem
structure ExcCls(K:Frag)(C:Addr):Prop where
 ga:findIn K (.ref C) "__getattribute__" = some (some (.builtin "BaseException.__getattribute__"))
 gt:findIn K (.ref C) "__getattr__" = some none
 cl:findIn K (.ref C) "__class__" = some (some (.builtin "object.__class__"))
 ob:subIn K (.ref C) (.type "object")=some true
 be:subIn K (.ref C) (.type "BaseException")=some true
 is:∃c d cd sl,K.lookup C=some ⟨c,d,.cls cd,sl⟩
section
variable{prog:Program}{w:World}{A:Around}{E:Z5}{h:Heap}{g:Array GenState}{d:Drawn}{t:Nat}{os:OsState}{a C:Addr}{o:Obj}{K:Frag}
end
end PySem.W
namespace PySem.W
open PySem
section
variable{prog:Program}{w:World}{A:Around}{E:Z5}{h:Heap}{g:Array GenState}{d:Drawn}{t:Nat}{os:OsState}{a C:Addr}{o:Obj}{K:Frag}
end
end PySem.W
namespace L2
open PySem PySem.Spec PyProof.Rows
end L2
namespace L2
open PySem PySem.Spec PyProof.Rows PySem.SeqAt
section
variable{X:Cx}
end
end L2
namespace L2
open PySem PySem.Spec PyProof.Rows
theorem zhJ(ns:List Int):∀j,j<=ns.length->preSum (fun i=>ns.getD i 0) j=(ns.take j).sum
 | 0,_=>by rw [List.take_zero];rfl
 | j+1,h=>by
  have ih:=zhJ ns j (by omega);show preSum _ j+ns.getD j 0=_
  have e:ns.take (j+1)=ns.take j++[ns[j]]:=by rw [List.take_add_one,yad (by omega)];rfl
  have e2:ns.getD j 0=ns[j]:=by simp [List.getD,show j<ns.length by omega]
  rw [ih,e,e2,List.sum_append];simp
theorem zgc(ns:List Int)(h:∀n∈ns,0<=n/\n<=1000000):∀j,j<=ns.length->0<=preSum (fun i=>ns.getD i 0) j/\preSum (fun i=>ns.getD i 0) j<=1000000*(j:Int)
 | 0,_=>⟨Int.le_refl _,Int.le_refl _⟩
 | j+1,hj=>by
  have ih:=zgc ns h j (by omega)
  have e:ns.getD j 0=ns[j]:=by simp [List.getD,show j<ns.length by omega]
  have hb:=h ns[j] (yba (by omega));show 0<=preSum _ j+ns.getD j 0/\preSum _ j+ns.getD j 0<=_;rw [e]
  push_cast
  omega
section
variable{X:Cx}
def zmD(hc:X.calm=true):zc2 X (.builtin "sum") (fun xs H Q=>∃(p:Addr) (ns:List Int),xs=[.ref p]/\SqL X.K H p (ns.map V.int)/\ns.length<=1000/\(∀n∈ns,0<=n/\n<=1000000)/\Q (.int ns.sum) H):=by
 intro pins s σ H xs us Q I r h;obtain ⟨p,ns,rfl,hq,hl1000,hb,q⟩:=h;obtain ⟨u,rfl,rx⟩:=zeG r;cases rx;obtain ⟨its,rv,pl,hz⟩:=I.list hq;have hl:=pl.isList
 have hlt:p<s.heap.objs.size:=by obtain ⟨_,e,_⟩:=hl;exact yan e
 have hn:its.length=ns.length:=by have:=rv.length;rw [yaf] at this;exact this.symm
 refine call_sum_walk (ycb hl ?_);refine ⟨s.heap.objs.size,[s.heap.objs.size,p],[s.heap.objs.size],its.toArray.size,_,_,fun i=>ns.getD i 0,rfl,Walks.list (A:=X.A.in1) (I.ok.hd hc) _ p (yar hlt) its.toArray,⟨⟨_,yak _ rfl,rfl,rfl⟩,hl.push _⟩,fun b hm=>?_,fun i v hP=>?_,fun j hj=>?_,fun h' tk t' hk=>?_⟩
 ·show b<(s.heap.push _).objs.size;rw [ybL];simp only [yat,ya7,ycL] at hm
  rcases hm with z | z
  ·rw [z];exact ybU _
  ·rw [z];exact ya0 hlt
 ·have hv:its[i]?=some v:=by simpa using hP
  have hi:i<ns.length:=by rw [<-hn];exact (yam.mp hv).1
  obtain ⟨u,hu,ru⟩:=rv.get (i:=i) (x:=.int ns[i]) (by rw [yas,yad hi];rfl);rw [hv] at hu;cases hu;obtain ⟨t,rfl⟩:=ru;exact ⟨t,by simp [List.getD,hi]⟩
 ·rw [yag,hn] at hj;have h1:=zgc ns hb (j+1) hj
  have e:ns.getD j 0=ns[j]:=by simp [List.getD,hj]
  have h2:=hb ns[j] (yba hj);refine ⟨?_,?_⟩
  ·show InLong (ns.getD j 0);rw [e];exact ⟨by omega,by omega⟩
  ·have:((j+1:Nat):Int)<=1000:=by omega
   exact ⟨by omega,by omega⟩
 ·rw [yag,hn,zhJ ns ns.length (yah _),List.take_length];refine ⟨.int _,H,I.kept (t':=tk) fun b o e=>?_,⟨t',rfl⟩,q⟩;exact hk b o (fun hm=>by rw [yaJ.mp hm] at e;exact ya4 _ (yan e)) (yae _ e)
end
end L2
namespace S2
open PySem PySem.Spec PyProof.Rows L2
mutual
noncomputable def D.py:D->PyData
 | .non=>.none
 | .bl b=>.bool b
 | .int i=>.int i
 | .str x=>.str x
 | .tup l=>.tuple (D.pys l)
 | .lst l=>.list (D.pys l)
 | .scr l=>.list (l.map PyData.int)
 | .dic _=>.none
 | .ref _=>.none
 | .exc _=>.none
noncomputable def D.pys:List D->List PyData
 | []=>[]
 | d::l=>d.py::D.pys l
end
mutual
noncomputable def D.fit:Nat->D->Bool
 | _,.non=>true
 | _,.bl _=>true
 | _,.int _=>true
 | _,.str x=>PyData.strOk x
 | 0,.tup _=>false
 | n+1,.tup l=>D.fits n l
 | 0,.lst _=>false
 | n+1,.lst l=>D.fits n l
 | 0,.scr _=>false
 | _+1,.scr _=>true
 | _,.dic _=>false
 | _,.ref _=>false
 | _,.exc _=>false
noncomputable def D.fits:Nat->List D->Bool
 | _,[]=>true
 | n,d::l=>d.fit n&&D.fits n l
end
theorem D.fits_iff{n:Nat}:∀{l:List D},D.fits n l=true↔∀d∈l,d.fit n=true
 | []=>by simp [D.fits]
 | d::l=>by simp [D.fits,D.fits_iff (l:=l)]
theorem zhX:∀(l:List Int),PyData.canLayAll0 (l.map PyData.int)=true/\PyData.depthAll (l.map PyData.int)=0
 | []=>⟨rfl,rfl⟩
 | i::l=>by
  obtain ⟨a,b⟩:=zhX l;exact ⟨by simp [PyData.canLayAll0,PyData.canLay0,a],by simp [PyData.depthAll,PyData.depth,b]⟩
mutual
theorem D.lay:∀{n:Nat} {d:D},d.fit n=true->d.py.canLay0=true/\d.py.depth<=n
 | _,.non,_=>⟨rfl,yaL _⟩
 | _,.bl _,h=>⟨rfl,yaL _⟩
 | _,.int _,_=>⟨rfl,yaL _⟩
 | _,.str x,h=>⟨by simpa [D.fit,D.py,PyData.canLay0] using h,yaL _⟩
 | 0,.tup _,h=>by simp [D.fit] at h
 | 0,.lst _,h=>by simp [D.fit] at h
 | 0,.scr _,h=>by simp [D.fit] at h
 | n+1,.scr l,h=>by
  obtain ⟨a,b⟩:=zhX l;exact ⟨by simpa [D.py,PyData.canLay0] using a,by simp only [D.py,PyData.depth];omega⟩
 | _,.dic _,h=>by simp [D.fit] at h
 | _,.ref _,h=>by simp [D.fit] at h
 | _,.exc _,h=>by simp [D.fit] at h
 | n+1,.tup l,h=>by
  have h':D.fits n l=true:=by simpa [D.fit] using h
  obtain ⟨a,b⟩:=D.lays h';exact ⟨by simpa [D.py,PyData.canLay0] using a,by simp only [D.py,PyData.depth];omega⟩
 | n+1,.lst l,h=>by
  have h':D.fits n l=true:=by simpa [D.fit] using h
  obtain ⟨a,b⟩:=D.lays h';exact ⟨by simpa [D.py,PyData.canLay0] using a,by simp only [D.py,PyData.depth];omega⟩
theorem D.lays:∀{n:Nat} {l:List D},D.fits n l=true->PyData.canLayAll0 (D.pys l)=true/\PyData.depthAll (D.pys l)<=n
 | _,[],_=>⟨rfl,yaL _⟩
 | n,d::l,h=>by
  simp only [D.fits,yab] at h;obtain ⟨a,b⟩:=D.lay h.1;obtain ⟨c,e⟩:=D.lays h.2;exact ⟨by simp [D.pys,PyData.canLayAll0,a,c],by simp only [D.pys,PyData.depthAll];omega⟩
end
section
variable{X:Cx}{cl:Cf}{w:Wd}
def TopV.lstI{v:V}{ds:List D}(h:TopV cl w v (.lst ds)):∃a xs,v=.ref a/\w.H a=some (.lst xs)/\Shds cl w xs ds:=by
 cases h with
 | sh h=>cases h with
  | lst e k r=>exact ⟨_,_,rfl,e,r⟩
 | ow e t=>cases t with
  | lst r=>exact ⟨_,_,rfl,e,r⟩
def TopV.tupI{v:V}{ds:List D}(h:TopV cl w v (.tup ds)):∃a xs,v=.ref a/\w.H a=some (.tup xs)/\w.ow a=none/\Shds cl w xs ds:=by
 cases h with
 | sh h=>cases h with
  | tup e k r=>exact ⟨_,_,rfl,e,k,r⟩
 | ow e t=>cases t
def TopV.intI{v:V}{i:Int}(h:TopV cl w v (.int i)):v=.int i:=by
 cases h with
 | sh h=>cases h;rfl
 | ow e t=>cases t
def TopV.strI{v:V}{i:Str}(h:TopV cl w v (.str i)):v=.str i:=by
 cases h with
 | sh h=>cases h;rfl
 | ow e t=>cases t
def TopV.blI{v:V}{i:Bool}(h:TopV cl w v (.bl i)):v=.bl i:=by
 cases h with
 | sh h=>cases h;rfl
 | ow e t=>cases t
def TopV.nonI{v:V}(h:TopV cl w v .non):v=.non:=by
 cases h with
 | sh h=>cases h;rfl
 | ow e t=>cases t
def Shd.scrI{v:V}{l:List Int}(hK:X.K=cl.K)(h:Shd cl w v (.scr l)):∃a,v=.ref a/\SqL X.K w.H a (l.map V.int):=by
 cases h with
 | scr e k=>exact ⟨_,rfl,.inl (.inr ⟨_,e⟩)⟩
 | scrK h=>exact ⟨_,rfl,by rw [hK];exact h _⟩
theorem TopV.scrI{v:V}{l:List Int}(hK:X.K=cl.K)(h:TopV cl w v (.scr l)):∃a,v=.ref a/\SqL X.K w.H a (l.map V.int):=by
 cases h with
 | sh h=>exact h.scrI hK
 | ow e t=>cases t
def zhF{pins:Z3}{σ:St}{s:Shared}(I:Inv X pins σ w.H s)(hK:X.K=cl.K){v:V}{l:List Int}(h:Shd cl w v (.scr l)){u:Value}(r:zaE v u):∃as,Reads s.heap u (D.scr l).py as:=by
  obtain ⟨a,rfl,hq⟩:=h.scrI hK;cases r;obtain ⟨its,rv,p,_⟩:=I.list hq;obtain ⟨o,ho,hc,n,hd⟩:=id p.isList
  have go:∀{l:List Int} {us:List Value},Vals (l.map V.int) us->∃as,ReadsAll s.heap us (l.map PyData.int) as:=by
   intro l
   induction l with
   | nil=>intro us h;cases h;exact ⟨_,.nil⟩
   | cons i l ih =>
    intro us h
    cases h with
    | cons h1 h2 =>
     obtain ⟨t,rfl⟩:=h1;obtain ⟨as,ra⟩:=ih h2;exact ⟨_,.cons (.int i t) ra⟩
  obtain ⟨as,ra⟩:=go rv;exact ⟨_,.list ho hc hd (by simpa using ra)⟩
mutual
theorem zqJ{pins:Z3}{σ:St}{s:Shared}(I:Inv X pins σ w.H s)(hK:X.K=cl.K):∀{v:V} {d:D} {n:Nat},Shd cl w v d->d.fit n=true->∀{u:Value},zaE v u->∃as,Reads s.heap u d.py as
 | _,_,_,.non,_,_,r=>by cases r;exact ⟨_,.none⟩
 | _,_,_,.bl b,_,_,r=>by cases r;exact ⟨_,.bool b⟩
 | _,_,_,.int i,_,_,r=>by obtain ⟨t,rfl⟩:=r;exact ⟨_,.int i t⟩
 | _,_,_,.str x,_,_,r=>by obtain ⟨t,rfl⟩:=r;exact ⟨_,.str x t⟩
 | _,_,0,.tup _ _ _,h,_,_=>by simp [D.fit] at h
 | _,_,0,.lst _ _ _,h,_,_=>by simp [D.fit] at h
 | _,_,n+1,.tup (a:=a) e _ rs,h,_,r=>by
  cases r;obtain ⟨its,rv,p,_⟩:=I.tuple (SqT.of (K:=X.K) e);obtain ⟨o,ho,hc,n,hd⟩:=id p;obtain ⟨as,ra⟩:=zcI I hK rs (by simpa [D.fit] using h) rv;exact ⟨_,.tuple ho hc hd (by simpa using ra)⟩
 | _,_,n+1,.lst (a:=a) e _ rs,h,_,r=>by
  cases r;obtain ⟨its,rv,p,_⟩:=I.list (SqL.of (K:=X.K) e);obtain ⟨o,ho,hc,n,hd⟩:=id p.isList;obtain ⟨as,ra⟩:=zcI I hK rs (by simpa [D.fit] using h) rv;exact ⟨_,.list ho hc hd (by simpa using ra)⟩
 | _,_,n,.scr e k,h,_,r=>zhF I hK (.scr e k) r
 | _,_,n,.scrK e,h,_,r=>zhF I hK (.scrK e) r
 | _,_,n,.dicK _ _ _,h,_,_=>by simp [D.fit] at h
 | _,_,n,.dicT _ _ _,h,_,_=>by simp [D.fit] at h
 | _,_,n,.dicN _ _,h,_,_=>by simp [D.fit] at h
 | _,_,n,.ref _,h,_,_=>by simp [D.fit] at h
 | _,_,n,.exc _ _ _,h,_,_=>by simp [D.fit] at h
theorem zcI{pins:Z3}{σ:St}{s:Shared}(I:Inv X pins σ w.H s)(hK:X.K=cl.K):∀{vs:List V} {ds:List D} {n:Nat},Shds cl w vs ds->D.fits n ds=true->∀{us:List Value},Vals vs us->∃as,ReadsAll s.heap us (D.pys ds) as
 | _,_,_,.nil,_,_,r=>by cases r;exact ⟨_,.nil⟩
 | _,_,n,.cons h t,f,_,r=>by
  simp only [D.fits,yab] at f
  cases r with
  | cons r1 r2 =>
   obtain ⟨as,a⟩:=zqJ I hK h f.1 r1;obtain ⟨bs,b⟩:=zcI I hK t f.2 r2;exact ⟨_,.cons a b⟩
end
def zgb{pins:Z3}{σ:St}{s:Shared}(I:Inv X pins σ w.H s)(hK:X.K=cl.K){v:V}{d:D}{n:Nat}(h:TopV cl w v d)(f:d.fit n=true){u:Value}(r:zaE v u):∃as,Reads s.heap u d.py as:=by
 cases h with
 | sh h=>exact zqJ I hK h f r
 | ow e t =>
  cases t with
  | lst rs =>
   cases n with
   | zero=>simp [D.fit] at f
   | succ n =>
    cases r;obtain ⟨its,rv,p,_⟩:=I.list (SqL.of (K:=X.K) e);obtain ⟨o,ho,hc,n,hd⟩:=id p.isList;obtain ⟨as,ra⟩:=zcI I hK rs (by simpa [D.fit] using f) rv;exact ⟨_,.list ho hc hd (by simpa using ra)⟩
  | dicK _=>simp [D.fit] at f
  | dicT _=>simp [D.fit] at f
  | dicN=>simp [D.fit] at f
noncomputable def zeF(d e:D):Bool:=d.py.eqv e.py
noncomputable def eqD(d e:D):Option D:=if d.fit 9&&e.fit 9 then some (.bl (zeF d e)) else none
noncomputable def neD(d e:D):Option D:=if d.fit 9&&e.fit 9 then some (.bl (!zeF d e)) else none
def ztX(hK:X.K=cl.K)(hu:X.A.units+64<cLine):OpD X cl (compareOp .Eq) eqD:=by
 intro pins s σ H x y v u Q I rx ry h;obtain ⟨w,d,e,r,rfl,hx,hy,hg,q⟩:=h;unfold eqD at hg;split at hg
 ·rename_i hf;cases hg;rw [yab] at hf;obtain ⟨as,ra⟩:=zgb I hK hx hf.1 rx;obtain ⟨bs,rb⟩:=zgb I hK hy hf.2 ry;obtain ⟨l1,d1⟩:=D.lay hf.1;obtain ⟨l2,d2⟩:=D.lay hf.2;exact SeqAt.compareEq_reads ra rb l1 l2 (by omega) ⟨.bl _,w.H,I,rfl,q _ w (Grow.refl _) (.bl _)⟩
 ·cases hg
def ztV(hK:X.K=cl.K)(hu:X.A.units+64<cLine):OpD X cl (compareOp .NotEq) neD:=by
 intro pins s σ H x y v u Q I rx ry h;obtain ⟨w,d,e,r,rfl,hx,hy,hg,q⟩:=h;unfold neD at hg;split at hg
 ·rename_i hf;cases hg;rw [yab] at hf;obtain ⟨as,ra⟩:=zgb I hK hx hf.1 rx;obtain ⟨bs,rb⟩:=zgb I hK hy hf.2 ry;obtain ⟨l1,d1⟩:=D.lay hf.1;obtain ⟨l2,d2⟩:=D.lay hf.2;exact SeqAt.compareNe_reads ra rb l1 l2 (by omega) ⟨.bl _,w.H,I,rfl,q _ w (Grow.refl _) (.bl _)⟩
 ·cases hg
noncomputable def zjq:D->Option (List D) | .lst l=>some l | .tup l=>some l | _=>none
noncomputable def zhU(d:D)(l:List D):Bool:=l.any fun e=>zeF e d
noncomputable def inD(d e:D):Option D:=match zjq e with | some l=>if d.fit 8&&D.fits 8 l then some (.bl (zhU d l)) else none | none=>none
noncomputable def zk8(d e:D):Option D:=match zjq e with | some l=>if d.fit 8&&D.fits 8 l then some (.bl (!zhU d l)) else none | none=>none
def zcF{s:Shared}{its:List Value}{ds:List D}{as:List Addr}{d:D}(ra:ReadsAll s.heap its (D.pys ds) as)(f:D.fits 8 ds=true):(its.toArray.any fun y=>(SeqAt.readOf s.heap y).eqv d.py)=zhU d ds:=by
 rw [SeqAt.any_by_data (vs:=its.toArray) (xs:=D.pys ds) (as:=as) (by simpa using ra) (D.lays f).1]
 have:∀{l:List D},((D.pys l).any fun y=>y.eqv d.py)=zhU d l:=by
  intro l
  induction l with
  | nil=>rfl
  | cons e l ih =>
   show (e.py.eqv d.py||(D.pys l).any fun y=>y.eqv d.py)=(zeF e d||zhU d l);rw [ih];rfl
 exact this
theorem zbC{A:Around}{s:Shared}{x:Value}{d:D}{bs:List Addr}(hu:A.units+64<cLine)(rx:Reads s.heap x d.py bs)(fd:d.fit 8=true):∀{its:List Value} {ds:List D} {as:List Addr},ReadsAll s.heap its (D.pys ds) as->D.fits 8 ds=true->∀y,y∈its.toArray->SeqAt.EqAt A.in1 s y x ((SeqAt.readOf s.heap y).eqv d.py)
 | [],[],_,_,_,y,hy=>by simp at hy
 | [],_::_,_,h,_,_,_=>by cases h
 | _::_,[],_,h,_,_,_=>by cases h
 | v::its,e::ds,_,h,f,y,hy=>by
  simp only [D.fits,yab] at f
  cases h with
  | cons h1 h2 =>
   simp at hy
   rcases hy with rfl | hy
   ·rw [zg4 (D.lay f.1).1 h1];refine SeqAt.eqAt_reads _ _ _ _ _ _ _ _ h1 rx (D.lay f.1).1 (D.lay fd).1 ?_;have:=(D.lay f.1).2;show A.units+1+_<cLine;omega
   ·exact zbC hu rx fd h2 f.2 y (by simpa using hy)
def zjp{e:D}{l:List D}(h:zjq e=some l):e=.lst l\/e=.tup l:=by
 cases e<;>simp [zjq] at h
 ·exact .inr (by rw [h])
 ·exact .inl (by rw [h])
def ztW(hK:X.K=cl.K)(hu:X.A.units+64<cLine):OpD X cl (compareOp .In) inD:=by
 intro pins s σ H x y v u Q I rx ry h;obtain ⟨w,d,e,r,rfl,hx,hy,hg,q⟩:=h;unfold inD at hg;split at hg
 ·rename_i l hl;split at hg
  ·rename_i hf;cases hg;rw [yab] at hf;obtain ⟨bs,rb⟩:=zgb I hK hx hf.1 rx
   rcases zjp hl with rfl | rfl
   ·obtain ⟨a,xs,rfl,e,rs⟩:=hy.lstI;cases ry;obtain ⟨its,rv,p,_⟩:=I.list (SqL.of (K:=X.K) e);obtain ⟨as,ra⟩:=zcI I hK rs hf.2 rv;refine SeqAt.in_listAt _ p.isList (zbC hu rb hf.1 ra hf.2) ?_;rw [zcF ra hf.2];exact ⟨.bl _,w.H,I,rfl,q _ w (Grow.refl _) (.bl _)⟩
   ·obtain ⟨a,xs,rfl,e,_,rs⟩:=hy.tupI;cases ry;obtain ⟨its,rv,p,_⟩:=I.tuple (SqT.of (K:=X.K) e);obtain ⟨as,ra⟩:=zcI I hK rs hf.2 rv;refine SeqAt.in_tupleAt _ p (zbC hu rb hf.1 ra hf.2) ?_;rw [zcF ra hf.2];exact ⟨.bl _,w.H,I,rfl,q _ w (Grow.refl _) (.bl _)⟩
  ·cases hg
 ·cases hg
def zrh(hK:X.K=cl.K)(hu:X.A.units+64<cLine):OpD X cl (compareOp .NotIn) zk8:=by
 intro pins s σ H x y v u Q I rx ry h;obtain ⟨w,d,e,r,rfl,hx,hy,hg,q⟩:=h;unfold zk8 at hg;split at hg
 ·rename_i l hl;split at hg
  ·rename_i hf;cases hg;rw [yab] at hf;obtain ⟨bs,rb⟩:=zgb I hK hx hf.1 rx
   rcases zjp hl with rfl | rfl
   ·obtain ⟨a,xs,rfl,e,rs⟩:=hy.lstI;cases ry;obtain ⟨its,rv,p,_⟩:=I.list (SqL.of (K:=X.K) e);obtain ⟨as,ra⟩:=zcI I hK rs hf.2 rv;refine SeqAt.notIn_listAt _ p.isList (zbC hu rb hf.1 ra hf.2) ?_;rw [zcF ra hf.2];exact ⟨.bl _,w.H,I,rfl,q _ w (Grow.refl _) (.bl _)⟩
   ·obtain ⟨a,xs,rfl,e,_,rs⟩:=hy.tupI;cases ry;obtain ⟨its,rv,p,_⟩:=I.tuple (SqT.of (K:=X.K) e);obtain ⟨as,ra⟩:=zcI I hK rs hf.2 rv;refine SeqAt.notIn_tupleAt _ p (zbC hu rb hf.1 ra hf.2) ?_;rw [zcF ra hf.2];exact ⟨.bl _,w.H,I,rfl,q _ w (Grow.refl _) (.bl _)⟩
  ·cases hg
 ·cases hg
noncomputable def zcM:D->D->Option D
 | .int i,.int j=>some (.int (i+j))
 | .tup a,.tup b=>if zaN (a.length+b.length) then some (.tup (a++b)) else none
 | .lst a,.lst b=>if zaN (a.length+b.length) then some (.lst (a++b)) else none
 | .str a,.str b=>if zaN (a.length+b.length) then some (.str (a++b)) else none
 | _,_=>none
def zrn:OpD X cl (binaryOp .Add) zcM:=by
 intro pins s σ H x y v u Q I rx ry h;obtain ⟨w,d,e,r,rfl,hx,hy,hg,q⟩:=h;unfold zcM at hg;split at hg
 ·cases hg;rename_i i j;obtain rfl:=hx.intI;obtain rfl:=hy.intI;exact zrd pins s σ w.H _ _ v u Q I rx ry ⟨i,j,rfl,rfl,q _ w (Grow.refl _) (.int _)⟩
 ·rename_i a b;split at hg
  ·rename_i hz;cases hg;obtain ⟨p,xs,rfl,ep,kp,rs⟩:=hx.tupI;obtain ⟨p2,ys,rfl,ep2,kp2,rs2⟩:=hy.tupI
   by_cases hxe:xs=[]
   ·subst hxe;cases rs;exact zlN pins s σ w.H _ _ v u Q I rx ry ⟨p,p2,ys,rfl,rfl,SqT.of ep,SqT.of ep2,q _ w (Grow.refl _) (.tup ep2 kp2 rs2)⟩
   ·refine zoD pins s σ w.H _ _ v u Q I rx ry ⟨p,p2,xs,ys,rfl,rfl,SqT.of ep,SqT.of ep2,hxe,by rw [rs.length,rs2.length];exact zaM hz,fun z=>?_,fun z l hl=>?_⟩
    ·subst z;cases rs2;rw [yaG] at q;exact q _ w (Grow.refl _) (.tup ep kp rs)
    ·exact q _ (w.add l _) (zan hl _) (Shd.newT hl (rs.append rs2))
  ·cases hg
 ·rename_i a b;split at hg
  ·rename_i hz;cases hg;obtain ⟨p,xs,rfl,ep,rs⟩:=hx.lstI;obtain ⟨p2,ys,rfl,ep2,rs2⟩:=hy.lstI;exact zrc pins s σ w.H _ _ v u Q I rx ry ⟨p,p2,xs,ys,rfl,rfl,ep,ep2,by rw [rs.length,rs2.length];exact zaM hz,fun l hl=>q _ (w.add l _) (zan hl _) (Shd.newL hl (rs.append rs2))⟩
  ·cases hg
 ·rename_i a b;split at hg
  ·rename_i hz;cases hg;obtain rfl:=hx.strI;obtain rfl:=hy.strI;exact ziz pins s σ w.H _ _ v u Q I rx ry ⟨a,b,rfl,rfl,zaM hz,q _ w (Grow.refl _) (.str _)⟩
  ·cases hg
 ·cases hg
noncomputable def zpC:D->D->Option D | .int i,.int j=>some (.int (i-j)) | _,_=>none
def zrg:OpD X cl (binaryOp .Sub) zpC:=by
 intro pins s σ H x y v u Q I rx ry h;obtain ⟨w,d,e,r,rfl,hx,hy,hg,q⟩:=h;unfold zpC at hg;split at hg
 ·cases hg;rename_i i j;obtain rfl:=hx.intI;obtain rfl:=hy.intI;exact zq8 pins s σ w.H _ _ v u Q I rx ry ⟨i,j,rfl,rfl,q _ w (Grow.refl _) (.int _)⟩
 ·cases hg
noncomputable def zbK(i:Int):Bool:=decide (-(2 ^ 64)<i/\i<2 ^ 64)
noncomputable def ziB:D->D->Option D
 | .int i,.int j=>if zbK i||zbK j then some (.int (i*j)) else none
 | .tup a,.int j=>if decide (1<=j/\j<=1000/\a≠[]/\a.length<=1000) then some (.tup (List.replicate j.toNat a).flatten) else none
 | .lst a,.int j=>if decide (0<=j/\j<=1000/\a.length<=1000) then some (.lst (List.replicate j.toNat a).flatten) else none
 | _,_=>none
def zri:OpD X cl (binaryOp .Mult) ziB:=by
 intro pins s σ H x y v u Q I rx ry h;obtain ⟨w,d,e,r,rfl,hx,hy,hg,q⟩:=h;unfold ziB at hg;split at hg
 ·rename_i i j;split at hg
  ·rename_i hz;cases hg;obtain rfl:=hx.intI;obtain rfl:=hy.intI;refine zq9 pins s σ w.H _ _ v u Q I rx ry ⟨i,j,rfl,rfl,?_,q _ w (Grow.refl _) (.int _)⟩;rw [ycw] at hz;exact hz.imp (fun z=>yaj z) fun z=>yaj z
  ·cases hg
 ·rename_i a j;split at hg
  ·rename_i hz;cases hg;have hz':=yaj hz;obtain ⟨p,xs,rfl,ep,kp,rs⟩:=hx.tupI;obtain rfl:=hy.intI;have hl:=rs.length;obtain ⟨k,rfl⟩:∃k:Nat,j=(k:Int):=⟨j.toNat,by omega⟩;have hne:xs≠[]:=fun z=>hz'.2.2.1 (by cases a with | nil=>rfl | cons _ _=>rw [z] at hl;cases hl)
   by_cases hk:k=1
   ·subst hk;cases rx;obtain ⟨t,rfl⟩:=ry;obtain ⟨its,rv,⟨o,ho,hc,n,hd⟩,_⟩:=I.tuple (SqT.of (K:=X.K) ep);refine PySem.zlT ho hc hd ⟨.ref p,w.H,I,rfl,q _ w (Grow.refl _) (.tup ep kp ?_)⟩;simpa using rs
   ·refine zoA pins s σ w.H _ _ v u Q I rx ry ⟨p,k,xs,rfl,rfl,SqT.of ep,hne,by omega,by omega,by omega,fun l hl=>q _ (w.add l _) (zan hl _) (Shd.newT hl (rs.flat _))⟩
  ·cases hg
 ·rename_i a j;split at hg
  ·rename_i hz;cases hg;have hz':=yaj hz;obtain ⟨p,xs,rfl,ep,rs⟩:=hx.lstI;obtain rfl:=hy.intI;have hl:=rs.length;refine znd pins s σ w.H _ _ v u Q I rx ry ⟨p,j,xs,rfl,rfl,ep,by omega,by omega,?_,fun l hl=>q _ (w.add l _) (zan hl _) (Shd.newL hl (rs.flat _))⟩;refine yaq (ybY (show xs.length<=1000 by omega) (show j.toNat<=1000 by omega)) (by decide)
  ·cases hg
 ·cases hg
noncomputable def zj4:D->D->Option D | .int i,.int j=>if 0<j then some (.int (i % j)) else none | _,_=>none
noncomputable def zr3:D->D->Option D | .int i,.int j=>if 0<j/\j<1073741824 then some (.int (i / j)) else none | _,_=>none
def zrj:OpD X cl (binaryOp .Mod) zj4:=by
 intro pins s σ H x y v u Q I rx ry h;obtain ⟨w,d,e,r,rfl,hx,hy,hg,q⟩:=h;unfold zj4 at hg;split at hg
 ·rename_i i j;split at hg
  ·rename_i hz;cases hg;obtain rfl:=hx.intI;obtain rfl:=hy.intI;exact zra pins s σ w.H _ _ v u Q I rx ry ⟨i,j,rfl,rfl,hz,q _ w (Grow.refl _) (.int _)⟩
  ·cases hg
 ·cases hg
def zrm:OpD X cl (binaryOp .FloorDiv) zr3:=by
 intro pins s σ H x y v u Q I rx ry h;obtain ⟨w,d,e,r,rfl,hx,hy,hg,q⟩:=h;unfold zr3 at hg;split at hg
 ·rename_i i j;split at hg
  ·rename_i hz;cases hg;obtain rfl:=hx.intI;obtain rfl:=hy.intI;exact zoC pins s σ w.H _ _ v u Q I rx ry ⟨i,j,rfl,rfl,hz,q _ w (Grow.refl _) (.int _)⟩
  ·cases hg
 ·cases hg
noncomputable def zpE:D->Option D | .int i=>some (.int (-i)) | _=>none
def zpN:UnD X cl (unaryOp .USub) zpE:=by
 intro pins s σ H x v Q I rx h;obtain ⟨w,d,r,rfl,hx,hg,q⟩:=h;unfold zpE at hg;split at hg
 ·cases hg;rename_i i;obtain rfl:=hx.intI;exact zpM pins s σ w.H _ v Q I rx ⟨i,rfl,q _ w (Grow.refl _) (.int _)⟩
 ·cases hg
noncomputable def zpG(p:Int->Int->Bool):D->D->Option D | .int i,.int j=>some (.bl (p i j)) | _,_=>none
def zfr{op:CmpOp}{p:Int->Int->Bool}(ho:OpR X (compareOp op) (rI0 fun i j=>.bl (p i j))):OpD X cl (compareOp op) (zpG p):=by
 intro pins s σ H x y v u Q I rx ry h;obtain ⟨w,d,e,r,rfl,hx,hy,hg,q⟩:=h;unfold zpG at hg;split at hg
 ·cases hg;rename_i i j;obtain rfl:=hx.intI;obtain rfl:=hy.intI;exact ho pins s σ w.H _ _ v u Q I rx ry ⟨i,j,rfl,rfl,q _ w (Grow.refl _) (.bl _)⟩
 ·cases hg
noncomputable def zci:D->Bool | .non=>true | _=>false
noncomputable def zsI(d e:D):Option D:=if zci e then some (.bl (zci d)) else none
noncomputable def zg9(d e:D):Option D:=if zci e then some (.bl (!zci d)) else none
def TopV.non_iff{v:V}{d:D}(h:TopV cl w v d):decide (v=.non)=zci d:=by
 cases h with
 | sh h=>cases h<;>simp [zci]
 | ow e t=>cases t<;>simp [zci]
def zgs{d:D}(h:zci d=true):d=.non:=by cases d<;>simp [zci] at h;rfl
def zrk:OpD X cl (compareOp .Is) zsI:=by
 intro pins s σ H x y v u Q I rx ry h;obtain ⟨w,d,e,r,rfl,hx,hy,hg,q⟩:=h;unfold zsI at hg;split at hg
 ·rename_i hz;cases hg;rw [zgs hz] at hy;obtain rfl:=hy.nonI;refine zrb pins s σ w.H _ _ v u Q I rx ry ⟨rfl,?_⟩;rw [hx.non_iff];exact q _ w (Grow.refl _) (.bl _)
 ·cases hg
def zoH:OpD X cl (compareOp .IsNot) zg9:=by
 intro pins s σ H x y v u Q I rx ry h;obtain ⟨w,d,e,r,rfl,hx,hy,hg,q⟩:=h;unfold zg9 at hg;split at hg
 ·rename_i hz;cases hg;rw [zgs hz] at hy;obtain rfl:=hy.nonI;refine zoB pins s σ w.H _ _ v u Q I rx ry ⟨rfl,?_⟩;rw [hx.non_iff];exact q _ w (Grow.refl _) (.bl _)
 ·cases hg
noncomputable def zlO:D->D->Option D | .bl a,.bl b=>some (.bl (!decide (a=b))) | _,_=>none
def zoI:OpD X cl (compareOp .IsNot) zlO:=by
 intro pins s σ H x y v u Q I rx ry h;obtain ⟨w,d,e,r,rfl,hx,hy,hg,q⟩:=h;unfold zlO at hg;split at hg
 ·cases hg;obtain rfl:=hx.blI;obtain rfl:=hy.blI;exact zg8 pins s σ w.H _ _ v u Q I rx ry ⟨_,_,rfl,rfl,q _ w (Grow.refl _) (.bl _)⟩
 ·cases hg
noncomputable def ixD:D->D->Option D
 | .lst l,.int i=>atI l i
 | .tup l,.int i=>atI l i
 | .scr l,.int i=>(atI l i).map D.int
 | _,_=>none
def zhC{xs:List V}{ds:List D}(r:Shds cl w xs ds){i:Int}{d:D}(h:atI ds i=some d):∃v,atI xs i=some v/\Shd cl w v d:=by
 unfold atI at h ⊢;rw [r.length]
 cases e:ixN ds.length i with
 | none=>rw [e] at h;cases h
 | some j =>
  rw [e] at h;exact r.at h
def zum(hK:X.K=cl.K):IxD X cl ixD:=by
 intro value slice pins s σ H x y v u Q I rx ry h hsub;obtain ⟨w,d,e,r,rfl,hx,hy,hg,q⟩:=h;unfold ixD at hg;split at hg
 ·rename_i l i;obtain ⟨p,xs,rfl,ep,rs⟩:=hx.lstI;obtain rfl:=hy.intI;obtain ⟨z,e1,e2⟩:=zhC rs hg;exact zkm value slice pins s σ w.H _ _ v u Q I rx ry ⟨p,xs,i,z,rfl,rfl,SqL.of ep,e1,q _ w (Grow.refl _) e2⟩ hsub
 ·rename_i l i;obtain ⟨p,xs,rfl,ep,_,rs⟩:=hx.tupI;obtain rfl:=hy.intI;obtain ⟨z,e1,e2⟩:=zhC rs hg;exact zrJ value slice pins s σ w.H _ _ v u Q I rx ry ⟨p,xs,i,z,rfl,rfl,SqT.of ep,e1,q _ w (Grow.refl _) e2⟩ hsub
 ·rename_i l i;obtain ⟨p,rfl,ep⟩:=hx.scrI hK;obtain rfl:=hy.intI
  cases hl:atI l i with
  | none=>rw [hl] at hg;cases hg
  | some k =>
   rw [hl] at hg;cases hg
   have e1:atI (l.map V.int) i=some (.int k):=by
    unfold atI at hl ⊢;rw [yaf]
    cases e:ixN l.length i with
    | none=>rw [e] at hl;cases hl
    | some j =>
     rw [e] at hl;have hl':l[j]?=some k:=hl;show (l.map V.int)[j]?=_;rw [yas,hl'];rfl
   exact zkm value slice pins s σ w.H _ _ v u Q I rx ry ⟨p,_,i,_,rfl,rfl,ep,e1,q _ w (Grow.refl _) (.int _)⟩ hsub
 ·cases hg
noncomputable def zeK:List D->Option D
 | [.lst l]=>some (.int l.length)
 | [.tup l]=>some (.int l.length)
 | [.scr l]=>some (.int l.length)
 | [.str x]=>if zaN x.length then some (.int x.length) else none
 | _=>none
def zsa(hK:X.K=cl.K):ziY X cl (.builtin "len") zeK:=by
 intro pins s σ H xs us Q I r h;obtain ⟨w,ds,d,rfl,hx,hg,q⟩:=h;unfold zeK at hg;split at hg
 ·rename_i l;cases hg
  cases hx with
  | cons h1 h2 =>
   cases h2;obtain ⟨p,ys,rfl,ep,rs⟩:=h1.lstI;refine zcs pins s σ w.H _ us Q I r ⟨p,ys,rfl,.inl (SqL.of ep),?_⟩;rw [rs.length];exact q _ w (Grow.refl _) (.int _)
 ·rename_i l;cases hg
  cases hx with
  | cons h1 h2 =>
   cases h2;obtain ⟨p,ys,rfl,ep,_,rs⟩:=h1.tupI;refine zcs pins s σ w.H _ us Q I r ⟨p,ys,rfl,.inr (SqT.of ep),?_⟩;rw [rs.length];exact q _ w (Grow.refl _) (.int _)
 ·rename_i l;cases hg
  cases hx with
  | cons h1 h2 =>
   cases h2;obtain ⟨p,rfl,ep⟩:=h1.scrI hK;refine zcs pins s σ w.H _ us Q I r ⟨p,l.map V.int,rfl,.inl ep,?_⟩;rw [yaf];exact q _ w (Grow.refl _) (.int _)
 ·rename_i x;split at hg
  ·rename_i hz;cases hg
   cases hx with
   | cons h1 h2 =>
    cases h2;obtain rfl:=h1.strI;exact zgE pins s σ w.H _ us Q I r ⟨x,rfl,zaM hz,q _ w (Grow.refl _) (.int _)⟩
  ·cases hg
 ·cases hg
noncomputable def zbp:List D->Option D
 | [.lst l]=>some (.tup l)
 | [.tup l]=>some (.tup l)
 | _=>none
def zmB:ziY X cl (.type "tuple") zbp:=by
 intro pins s σ H xs us Q I r h;obtain ⟨w,ds,d,rfl,hx,hg,q⟩:=h;unfold zbp at hg;split at hg
 ·rename_i l;cases hg
  cases hx with
  | cons h1 h2 =>
   cases h2;obtain ⟨p,ys,rfl,ep,rs⟩:=h1.lstI;exact zdq pins s σ w.H _ us Q I r ⟨p,ys,rfl,.inl ⟨SqL.of ep,fun l hl=>q _ (w.add l _) (zan hl _) (Shd.newT hl rs)⟩⟩
 ·rename_i l;cases hg
  cases hx with
  | cons h1 h2 =>
   cases h2;obtain ⟨p,ys,rfl,ep,kp,rs⟩:=h1.tupI;exact zdq pins s σ w.H _ us Q I r ⟨p,ys,rfl,.inr ⟨SqT.of ep,q _ w (Grow.refl _) (.tup ep kp rs)⟩⟩
 ·cases hg
noncomputable def ziU:List D->Option (List Bool)
 | []=>some []
 | .bl b::l=>(ziU l).map (b::·)
 | _=>none
def zmJ{bs:List Bool}{ds:List D}:∀{xs:List V},Shds cl w xs ds->ziU ds=some bs->xs=bs.map V.bl:=by
 induction ds generalizing bs with
 | nil=>intro xs r h;cases r;cases h;rfl
 | cons d ds ih =>
  intro xs r e
  cases r with
  | cons h t =>
   cases d with
   | bl b =>
    cases h;unfold ziU at e
    cases hr:ziU ds with
    | none=>rw [hr] at e;cases e
    | some cs=>rw [hr] at e;cases e;rw [ih t hr];rfl
   | _=>cases e
noncomputable def zuY:List D->Option D
 | [.lst l]=>(ziU l).map fun bs=>.bl (bs.all id)
 | _=>none
def zsb(hc:X.calm=true):ziY X cl (.builtin "all") zuY:=by
 intro pins s σ H xs us Q I r h;obtain ⟨w,ds,d,rfl,hx,hg,q⟩:=h;unfold zuY at hg;split at hg
 ·rename_i l
  cases hb:ziU l with
  | none=>rw [hb] at hg;cases hg
  | some bs =>
   rw [hb] at hg;cases hg
   cases hx with
   | cons h1 h2 =>
    cases h2;obtain ⟨p,ys,rfl,ep,rs⟩:=h1.lstI;obtain rfl:=zmJ rs hb;exact zhp hc pins s σ w.H _ us Q I r ⟨p,bs,rfl,SqL.of ep,q _ w (Grow.refl _) (.bl _)⟩
 ·cases hg
noncomputable def zbZ:List D->Option (List Int)
 | []=>some []
 | .int b::l=>(zbZ l).map (b::·)
 | _=>none
def zgt{bs:List Int}{ds:List D}:∀{xs:List V},Shds cl w xs ds->zbZ ds=some bs->xs=bs.map V.int:=by
 induction ds generalizing bs with
 | nil=>intro xs r h;cases r;cases h;rfl
 | cons d ds ih =>
  intro xs r e
  cases r with
  | cons h t =>
   cases d with
   | int b =>
    cases h;unfold zbZ at e
    cases hr:zbZ ds with
    | none=>rw [hr] at e;cases e
    | some cs=>rw [hr] at e;cases e;rw [ih t hr];rfl
   | _=>cases e
noncomputable def zp2:List D->Option D
 | [.lst l]=>(zbZ l).bind fun ns=>if decide (ns.length<=1000)&&ns.all (fun n=>decide (0<=n/\n<=1000000)) then some (.int ns.sum) else none
 | _=>none
def zr9(hc:X.calm=true):ziY X cl (.builtin "sum") zp2:=by
 intro pins s σ H xs us Q I r h;obtain ⟨w,ds,d,rfl,hx,hg,q⟩:=h;unfold zp2 at hg;split at hg
 ·rename_i l
  cases hb:zbZ l with
  | none=>rw [hb] at hg;cases hg
  | some ns =>
   rw [hb] at hg;dsimp only [Option.bind] at hg;split at hg
   ·rename_i hz;cases hg;rw [yab,ybk] at hz
    cases hx with
    | cons h1 h2 =>
     cases h2;obtain ⟨p,ys,rfl,ep,rs⟩:=h1.lstI;obtain rfl:=zgt rs hb;exact zmD hc pins s σ w.H _ us Q I r ⟨p,ns,rfl,SqL.of ep,yaj hz.1,fun n hn=>yaj (hz.2 n hn),q _ w (Grow.refl _) (.int _)⟩
   ·cases hg
 ·cases hg
end
end S2
namespace L2
open PySem PySem.Spec PyProof.Rows
section
variable{X:Cx}{e st:Expr}{te ts:TE}{pos p2:Pos}
end
end L2
namespace S2
open PySem PySem.Spec PyProof.Rows L2
noncomputable def zdn(g g':D->D->Option D)(f h k:Fe):Fe:=fun ρ S=>(f ρ S).bind fun a S1=>(h ρ S1).bind fun b S2=>match (g a b).bind isB with
 | some true=>(k ρ S2).bind fun c S3=>Out.of (g' b c) S3
 | some false=>.ok (.bl false) S2
 | none=>.bad
section
variable{X:Cx}{cl:Cf}{E:St->XK}{a b c e:Expr}{f h k:Fe}{pos:Pos}
def zhz{g g':D->D->Option D}{r r':R2}(hr:∀x y H Q,(∃w d e r,w.H=H/\TopV cl w x d/\TopV cl w y e/\g d e=some r/\∀v w',Grow w w'->Shd cl w' v r->Q v w'.H)->r x y H Q)
  (hr':∀x y H Q,(∃w d e r,w.H=H/\TopV cl w x d/\TopV cl w y e/\g' d e=some r/\∀v w',Grow w w'->Shd cl w' v r->Q v w'.H)->r' x y H Q) {σ:St} {H:Hp} {Q:VK} (q:tE cl E (zdn g g' f h k) σ H Q):zjh r r' (tH cl E f) (tH cl E h) (tH cl E k) σ H Q:=by
 obtain ⟨B,w,ρ,S,rfl,R,q⟩:=q;refine ⟨B,w,ρ,S,rfl,R,?_⟩;unfold zdn at q
 cases hf:f ρ S with
 | bad=>rwa [hf] at q
 | exc c S1=>rwa [hf] at q
 | ok d S1 =>
  rw [hf] at q;intro v w1 R1 F1 h1;refine ⟨B,w1,ρ,S1,rfl,R1,?_⟩;dsimp only [Out.bind] at q
  cases hh:h ρ S1 with
  | bad=>rwa [hh] at q
  | exc c S2=>rw [hh] at q;exact fun w2 R2 F2=>q w2 R2 (F1.trans F2)
  | ok e S2 =>
   rw [hh] at q;intro y w2 R2 F2 h2;dsimp only at q
   cases hg:g d e with
   | none=>rw [hg] at q;exact q.elim
   | some z =>
    rw [hg] at q;dsimp only [Option.bind] at q
    cases hb:isB z with
    | none=>rw [hb] at q;exact q.elim
    | some bb =>
     rw [hb] at q;rw [zcA hb] at hg;refine hr _ _ _ _ ⟨w2,d,e,_,rfl,(h1.up F2).top R2,h2.top R2,hg,fun v' w3 gr sh=>⟨bb,zf8 sh,?_⟩⟩;have R3:=R2.grow gr
     cases bb with
     | false=>exact znp (q _ w3 R3 (F1.trans (F2.trans gr.fut)) (.bl _))
     | true =>
      refine zno ⟨B,w3,ρ,S2,rfl,R3,?_⟩;dsimp only at q
      cases hk:k ρ S2 with
      | bad=>rwa [hk] at q
      | exc c S3=>rw [hk] at q;exact fun w4 R4 F4=>q w4 R4 (F1.trans (F2.trans (gr.fut.trans F4)))
      | ok c S3 =>
       rw [hk] at q;intro z' w4 R4 F4 h4;dsimp only at q
       cases hg':g' e c with
       | none=>rw [hg'] at q;exact q.elim
       | some r2 =>
        rw [hg'] at q;exact hr' _ _ _ _ ⟨w4,e,c,r2,rfl,(h2.up (gr.fut.trans F4)).top R4,h4.top R4,hg',fun v' w5 gr5 sh5=>q v' w5 (R4.grow gr5) (F1.trans (F2.trans (gr.fut.trans (F4.trans gr5.fut)))) sh5⟩
def zlj{op op':CmpOp}{g g':D->D->Option D}(ho:OpD X cl (compareOp op) g)(ho':OpD X cl (compareOp op') g')(ha:PE X a (tH cl E f))(hb:PE X b (tH cl E h))(hc:PE X c (tH cl E k))(hm:lastMarks [op,op'] [b,c]=false):PE X (.Compare a [op,op'] [b,c] pos) (tE cl E (zdn g g' f h k)) :=
 PE.imp (zlG ho ho' ha hb hc hm) fun _ _ _ q=>zhz (fun _ _ _ _ z=>z) (fun _ _ _ _ z=>z) q
def zle{op op':CmpOp}{g g':D->D->Option D}(ho:OpD X cl (compareOp op) g)(ho':OpD X cl (compareOp op') g')(ha:PE X a (tH cl E f))(hb:PE X b (tH cl E h))(hc:PE X c (tH cl E k))(hm:lastMarks [op,op'] [b,c]=false):PT X (.Compare a [op,op'] [b,c] pos) (tTr cl E (zdn g g' f h k)) :=
 PT.imp (zls ho ho' ha hb hc hm) fun _ _ _ q=>zhz (fun _ _ _ _ z=>z) (fun _ _ _ _ z=>z) (zfX q)
noncomputable def znx{α:Type}(l:List α)(lo hi:Option Int):List α:=(l.drop (HT.sIx l.length 0 lo)).take (HT.sIx l.length l.length hi-HT.sIx l.length 0 lo)
noncomputable def slD(d:D)(lo hi:Option Int):Option D:=match d with
 | .lst l=>some (.lst (znx l lo hi))
 | .tup l=>some (.tup (znx l lo hi))
 | _=>none
noncomputable def zcc(o:Option Fe)(ρ:Env)(S:Sto):Out (Option Int):=match o with
 | none=>.ok none S
 | some f=>(f ρ S).bind fun d S1=>match d with | .int i=>.ok (some i) S1 | _=>.bad
noncomputable def eSl(f:Fe)(lo hi:Option Fe):Fe:=fun ρ S=>(f ρ S).bind fun d S1=>(zcc lo ρ S1).bind fun l S2=>(zcc hi ρ S2).bind fun u S3=>Out.of (slD d l u) S3
def zgz{w:Wd}{xs:List V}{ds:List D}(r:Shds cl w xs ds)(lo hi:Option Int):Shds cl w (znw xs lo hi) (znx ds lo hi):=by
 unfold znw znx;rw [r.length];exact (r.drop _).take _
noncomputable def SlD(X:Cx)(cl:Cf):Prop:=SlR X fun x lo hi H Q=>∃w d r,w.H=H/\TopV cl w x d/\slD d lo hi=some r/\∀v w',Grow w w'->Shd cl w' v r->Q v w'.H
def ztE:SlD X cl:=by
 intro pins s σ H x v vl vu lo hi sl Q I rx hs pl pu h;obtain ⟨w,d,r,rfl,hx,hg,q⟩:=h;unfold slD at hg;split at hg
 ·rename_i l;cases hg;obtain ⟨p,xs,rfl,ep,rs⟩:=hx.lstI;exact zn2 pins s σ w.H _ v vl vu lo hi sl Q I rx hs pl pu ⟨p,xs,rfl,SqL.of ep,fun p' hp=>q _ (w.add p' _) (zan hp _) (Shd.newL hp (zgz rs lo hi))⟩
 ·rename_i l;cases hg;obtain ⟨p,xs,rfl,ep,kp,rs⟩:=hx.tupI
  by_cases hw:HT.sIx xs.length 0 lo=0/\HT.sIx xs.length xs.length hi=xs.length
  ·refine zir pins s σ w.H _ v vl vu lo hi sl Q I rx hs pl pu ⟨p,xs,rfl,SqT.of ep,hw.1,hw.2,q _ w (Grow.refl _) (.tup ep kp ?_)⟩
   have:znx l lo hi=l:=by
    unfold znx;rw [<-rs.length,hw.1,hw.2,List.drop_zero,Nat.sub_zero,List.take_of_length_le (by rw [rs.length];exact yah _)]
   rw [this];exact rs
  ·exact zqg pins s σ w.H _ v vl vu lo hi sl Q I rx hs pl pu ⟨p,xs,rfl,SqT.of ep,hw,fun p' hp=>q _ (w.add p' _) (zan hp _) (Shd.newT hp (zgz rs lo hi))⟩
 ·cases hg
noncomputable def zsu(cl:Cf)(E:St->XK)(o:Option Fe):TO:=match o with | none=>zjg | some f=>zpS (tH cl E f)
def zqq{lo hi:Option Expr}{fl fh:Option Fe}{p2:Pos}(he:PE X e (tH cl E f))(hl:PO X lo (zsu cl E fl))(hu:PO X hi (zsu cl E fh)):PE X (.Subscript e (.Slice lo hi none p2) pos) (tE cl E (eSl f fl fh)):=by
 refine PE.imp (zlz (ztE (cl:=cl)) he hl hu) ?_;rintro σ H Q ⟨B,w,ρ,S,rfl,R,q⟩;refine ⟨B,w,ρ,S,rfl,R,?_⟩;unfold eSl at q
 cases hf:f ρ S with
 | bad=>rwa [hf] at q
 | exc c S1=>rwa [hf] at q
 | ok d S1 =>
  rw [hf] at q;intro v w1 R1 F1 h1;dsimp only [Out.bind] at q
  have last:∀(l u:Option Int) (w3:Wd) (S3:Sto),Rel cl B σ w3 ρ S3->Fut w1 w3->(match Out.of (slD d l u) S3 with
    | .ok d S'=>∀v w',Rel cl B σ w' ρ S'->Fut w w'->Shd cl w' v d->Q v w'.H
    | .exc c S'=>∀w',Rel cl B σ w' ρ S'->Fut w w'->E σ (.ref (cl c)) none w'.H
    | .bad=>False)->∃w d r,w.H=w3.H/\TopV cl w v d/\slD d l u=some r/\∀v w',Grow w w'->Shd cl w' v r->Q v w'.H:=by
   intro l u w3 S3 R3 F3 q3
   cases hg:slD d l u with
   | none=>rw [hg] at q3;exact q3.elim
   | some r =>
    rw [hg] at q3;exact ⟨w3,d,r,rfl,(h1.up F3).top R3,hg,fun v' w' gr sh=>q3 v' w' (R3.grow gr) (F1.trans (F3.trans gr.fut)) sh⟩
  have second:∀(l:Option Int) (w2:Wd) (S2:Sto),Rel cl B σ w2 ρ S2->Fut w1 w2->(match (zcc fh ρ S2).bind fun u S3=>Out.of (slD d l u) S3 with
    | .ok d S'=>∀v w',Rel cl B σ w' ρ S'->Fut w w'->Shd cl w' v d->Q v w'.H
    | .exc c S'=>∀w',Rel cl B σ w' ρ S'->Fut w w'->E σ (.ref (cl c)) none w'.H
    | .bad=>False)->zsu cl E fh σ w2.H fun u H3=>∃w d r,w.H=H3/\TopV cl w v d/\slD d l u=some r/\∀v w',Grow w w'->Shd cl w' v r->Q v w'.H:=by
   intro l w2 S2 R2 F2 q2
   cases fh with
   | none=>exact last l none w2 S2 R2 F2 q2
   | some fh =>
    refine ⟨B,w2,ρ,S2,rfl,R2,?_⟩;unfold zcc at q2;dsimp only at q2
    cases hh:fh ρ S2 with
    | bad=>rwa [hh] at q2
    | exc c S3=>rw [hh] at q2;exact fun w3 R3 F3=>q2 w3 R3 (F1.trans (F2.trans F3))
    | ok dh S3 =>
     rw [hh] at q2;intro y w3 R3 F3 h3;dsimp only [Out.bind] at q2
     cases dh with
     | int i =>
      refine ⟨i,(h3.top R3).intI,?_⟩;exact last l (some i) w3 S3 R3 (F2.trans F3) q2
     | _=>exact q2.elim
  cases fl with
  | none=>exact second none w1 S1 R1 (Fut.refl _) q
  | some fl =>
   refine ⟨B,w1,ρ,S1,rfl,R1,?_⟩;unfold zcc at q;dsimp only at q
   cases hh:fl ρ S1 with
   | bad=>rwa [hh] at q
   | exc c S3=>rw [hh] at q;exact fun w3 R3 F3=>q w3 R3 (F1.trans F3)
   | ok dl S2 =>
    rw [hh] at q;intro y w2 R2 F2 h2;dsimp only [Out.bind] at q
    cases dl with
    | int i =>
     refine ⟨i,(h2.top R2).intI,?_⟩;exact second (some i) w2 S2 R2 F2 q
    | _=>exact q.elim
noncomputable def zfz(T:String)(d:D):Option D :=
 if T = "int" then (match d with | .int _=>some (.bl true) | .bl _=>some (.bl true) | .non=>some (.bl false) | .str _=>some (.bl false) | .tup _=>some (.bl false) | .lst _=>some (.bl false) | _=>none)
 else if T = "bool" then (match d with | .int _=>some (.bl false) | .bl _=>some (.bl true) | .non=>some (.bl false) | .str _=>some (.bl false) | .tup _=>some (.bl false) | .lst _=>some (.bl false) | _=>none)
 else if T = "tuple" then (match d with | .int _=>some (.bl false) | .bl _=>some (.bl false) | .non=>some (.bl false) | .str _=>some (.bl false) | .tup _=>some (.bl true) | .lst _=>some (.bl false) | _=>none)
 else if T = "str" then (match d with | .int _=>some (.bl false) | .bl _=>some (.bl false) | .non=>some (.bl false) | .str _=>some (.bl true) | .tup _=>some (.bl false) | .lst _=>some (.bl false) | _=>none)
 else if T = "list" then (match d with | .int _=>some (.bl false) | .bl _=>some (.bl false) | .non=>some (.bl false) | .str _=>some (.bl false) | .tup _=>some (.bl false) | .lst _=>some (.bl true) | _=>none)
 else none
def zo6{K:PySem.W.Frag}{w:Wd}{v:V}{d r:D}{T:String}(h:TopV cl w v d)(hg:zfz T d=some r):∃t b,TyOf K w.H v t/\PySem.W.kitOne K t (.type T)=some b/\r=.bl b:=by
 unfold zfz at hg;split at hg
 ·rename_i hT;subst hT
  split at hg<;>cases hg
  ·obtain rfl:=h.intI;exact ⟨_,_,.int _,by with_unfolding_all rfl,rfl⟩
  ·obtain rfl:=h.blI;exact ⟨_,_,.bl _,by with_unfolding_all rfl,rfl⟩
  ·obtain rfl:=h.nonI;exact ⟨_,_,.non,by with_unfolding_all rfl,rfl⟩
  ·obtain rfl:=h.strI;exact ⟨_,_,.str _,by with_unfolding_all rfl,rfl⟩
  ·obtain ⟨_,_,rfl,e,_⟩:=h.tupI;exact ⟨_,_,.tup e,by with_unfolding_all rfl,rfl⟩
  ·obtain ⟨_,_,rfl,e,_⟩:=h.lstI;exact ⟨_,_,.lst e,by with_unfolding_all rfl,rfl⟩
 split at hg
 ·rename_i hT;subst hT
  split at hg<;>cases hg
  ·obtain rfl:=h.intI;exact ⟨_,_,.int _,by with_unfolding_all rfl,rfl⟩
  ·obtain rfl:=h.blI;exact ⟨_,_,.bl _,by with_unfolding_all rfl,rfl⟩
  ·obtain rfl:=h.nonI;exact ⟨_,_,.non,by with_unfolding_all rfl,rfl⟩
  ·obtain rfl:=h.strI;exact ⟨_,_,.str _,by with_unfolding_all rfl,rfl⟩
  ·obtain ⟨_,_,rfl,e,_⟩:=h.tupI;exact ⟨_,_,.tup e,by with_unfolding_all rfl,rfl⟩
  ·obtain ⟨_,_,rfl,e,_⟩:=h.lstI;exact ⟨_,_,.lst e,by with_unfolding_all rfl,rfl⟩
 split at hg
 ·rename_i hT;subst hT
  split at hg<;>cases hg
  ·obtain rfl:=h.intI;exact ⟨_,_,.int _,by with_unfolding_all rfl,rfl⟩
  ·obtain rfl:=h.blI;exact ⟨_,_,.bl _,by with_unfolding_all rfl,rfl⟩
  ·obtain rfl:=h.nonI;exact ⟨_,_,.non,by with_unfolding_all rfl,rfl⟩
  ·obtain rfl:=h.strI;exact ⟨_,_,.str _,by with_unfolding_all rfl,rfl⟩
  ·obtain ⟨_,_,rfl,e,_⟩:=h.tupI;exact ⟨_,_,.tup e,by with_unfolding_all rfl,rfl⟩
  ·obtain ⟨_,_,rfl,e,_⟩:=h.lstI;exact ⟨_,_,.lst e,by with_unfolding_all rfl,rfl⟩
 split at hg
 ·rename_i hT;subst hT
  split at hg<;>cases hg
  ·obtain rfl:=h.intI;exact ⟨_,_,.int _,by with_unfolding_all rfl,rfl⟩
  ·obtain rfl:=h.blI;exact ⟨_,_,.bl _,by with_unfolding_all rfl,rfl⟩
  ·obtain rfl:=h.nonI;exact ⟨_,_,.non,by with_unfolding_all rfl,rfl⟩
  ·obtain rfl:=h.strI;exact ⟨_,_,.str _,by with_unfolding_all rfl,rfl⟩
  ·obtain ⟨_,_,rfl,e,_⟩:=h.tupI;exact ⟨_,_,.tup e,by with_unfolding_all rfl,rfl⟩
  ·obtain ⟨_,_,rfl,e,_⟩:=h.lstI;exact ⟨_,_,.lst e,by with_unfolding_all rfl,rfl⟩
 split at hg
 ·rename_i hT;subst hT
  split at hg<;>cases hg
  ·obtain rfl:=h.intI;exact ⟨_,_,.int _,by with_unfolding_all rfl,rfl⟩
  ·obtain rfl:=h.blI;exact ⟨_,_,.bl _,by with_unfolding_all rfl,rfl⟩
  ·obtain rfl:=h.nonI;exact ⟨_,_,.non,by with_unfolding_all rfl,rfl⟩
  ·obtain rfl:=h.strI;exact ⟨_,_,.str _,by with_unfolding_all rfl,rfl⟩
  ·obtain ⟨_,_,rfl,e,_⟩:=h.tupI;exact ⟨_,_,.tup e,by with_unfolding_all rfl,rfl⟩
  ·obtain ⟨_,_,rfl,e,_⟩:=h.lstI;exact ⟨_,_,.lst e,by with_unfolding_all rfl,rfl⟩
 ·cases hg
def zkU:bootBuiltins "isinstance" = some (.builtin "isinstance"):=by decide +kernel
def zod{T:String}{x:Str}{p p2:Pos}(hg:Gl X "isinstance")(hm:X.mg "isinstance" = none)(hgT:Gl X x)(hmT:X.mg x=none)(hvT:bootBuiltins x=some (.type T))(hn:x ≠ "__name__")(hdb:(x == ("__debug__":Str))=false)(hp:zbd e=true)(he:PE X e (tH cl E f)) :
  PE X (.Call (.Name "isinstance" p) [e,.Name x p2] [] pos) (tE cl E (eUn (zfz T) f)):=by
 refine PE.imp (zdc zho hg hm zkU (za9 he (za9 (zoz (v:=.ty T) hgT hmT hvT rfl hn hdb) zch rfl) (zaB hp)) (he:=zaB hp) (hpl:=rfl)) ?_;rintro σ H Q ⟨B,w,ρ,S,rfl,R,q⟩;refine ⟨B,w,ρ,S,rfl,R,?_⟩;unfold eUn at q
 cases hf:f ρ S with
 | bad=>rwa [hf] at q
 | exc c S1=>rwa [hf] at q
 | ok d S1 =>
  rw [hf] at q;intro v w1 R1 F1 h1;dsimp only [Out.bind] at q
  cases hg:zfz T d with
  | none=>rw [hg] at q;exact q.elim
  | some r =>
   rw [hg] at q;obtain ⟨t,b,h2,h3,rfl⟩:=zo6 (K:=X.K) (h1.top R1) hg;exact ⟨v,t,T,b,rfl,h2,h3,q _ w1 R1 F1 (.bl _)⟩
noncomputable def zaD(f:Fe):Fi:=fun ρ S=>(f ρ S).bind fun d S1=>match d with | .lst l=>.ok l S1 | .tup l=>.ok l S1 | _=>.bad
def zqk{tg:Expr}(hK:X.K=cl.K)(he:PE X e (tE cl E f)):PI X tg e (tI cl E (zaD f)):=by
 intro pins s σ H R' I q;obtain ⟨B,w,ρ,S,rfl,R,q⟩:=q;unfold zaD at q
 cases hf:f ρ S with
 | bad=>rw [hf] at q;exact q.elim
 | exc c S1 =>
  refine zjn he pins s σ w.H R' I ⟨B,w,ρ,S,rfl,R,?_⟩;unfold zh1;rw [hf] at q ⊢;exact q
 | ok d S1 =>
  rw [hf] at q;dsimp only [Out.bind] at q
  cases d with
  | lst l =>
   refine zjn he pins s σ w.H R' I ⟨B,w,ρ,S,rfl,R,?_⟩;unfold zh1;rw [hf];exact q
  | tup l =>
   refine zqh he pins s σ w.H R' I ⟨B,w,ρ,S,rfl,R,?_⟩;unfold zhl;rw [hf];exact q
  | _=>exact q.elim
end
end S2
namespace PySem.F
end PySem.F
namespace L2
open PySem PySem.Spec PyProof.Rows
section
variable{prog:Program}{w:World}{A:Around}{E:Z5}{s:Shared}
end
section
variable{X:Cx}{pins:Z3}{σ:St}{H:Hp}{s:Shared}
end
end L2
namespace S2
open PySem PySem.Spec PyProof.Rows L2
section
variable{X:Cx}{cl:Cf}{E:St->XK}{e tg:Expr}{f:Fe}{own:Bool}{pos pos':Pos}
noncomputable def zxW:List D->Option D | [.int i,.int j]=>some (.int (if j<i then j else i)) | _=>none
noncomputable def zsx(i:Nat)(fe:Fe):Fs:=fun ρ S=>match ρ[i]? with
 | some (some (true,.lst l))=>(match fe ρ S with
  | .ok (.lst k) S'=>if zaN (l.length+k.length) then .nx (ρ.set i (some (true,.lst (l++k)))) S' else .bad
  | .ok _ _=>.bad
  | .exc c S'=>.ex c ρ S' | .bad=>.bad)
 | _=>.bad
def zqa{i:Nat}{x:Str}{ap cp:Pos}(hN:X.N[i]?=some x)(hv:Vis X.env.scope x)(hd:(x == ("__debug__":Str))=false)(hcd:(x == ("__classdict__":Str))=false)(he:PE X e (tH cl E f))
  (hpl:zbd e=true) (hln:(ap.endLine == cp.line)=true):PS X (.Expr (.Call (.Attribute (.Name x pos') "extend" ap) [e] [] cp) pos) (tS cl E own (zsx i f)):=by
 refine PS.imp (zfk (zlI (es:=[]) ybS PySem.F.slot_list_extend PySem.F.type_list_extend zj2 (zbl hN hv hd hcd) (za9 he zch (zaB hpl)) (hfew:=zev (by simp [hpl]) (by simp)) (hline:=hln) (hs:=zaB hpl) (hplain:=rfl))) ?_;rintro De σ H ⟨B,w,ρ,S,rfl,R,q⟩;unfold zsx at q;split at q
 ·rename_i l hl;obtain ⟨a,xs,e1,h1,h2,t⟩:=R.list hl;refine ⟨_,e1,.inl ⟨rfl,_,SqL.of h2⟩,B,w,ρ,S,rfl,R,?_⟩
  cases hf:f ρ S with
  | bad=>rwa [hf] at q
  | exc c S1=>rw [hf] at q;exact fun w' R' F'=>q σ w' R' F'
  | ok d S1 =>
   rw [hf] at q;intro v w' R' F' h'
   cases d with
   | lst k =>
    dsimp only at q
    cases hz:zaN (l.length+k.length) with
    | false=>rw [hz,if_neg (by decide)] at q;exact q.elim
    | true =>
     rw [hz,if_pos rfl] at q;obtain ⟨a',xs',e1',h1',h2',t'⟩:=R'.list hl;rw [e1] at e1';cases e1';obtain ⟨b,zs,rfl,eb,rb⟩:=(h'.top R').lstI;refine ⟨a,b,xs',zs,rfl,rfl,h2',eb,by rw [t'.length,rb.length];exact zaM hz,?_⟩;exact q σ (w'.mut a (.lst (xs'++zs))) (R'.mut (d0:=.non) e1 h1' (.lst (t'.append rb))) (F'.trans (zcj (by rw [h1'];exact yaC _)))
   | _=>exact q.elim
 ·exact q.elim
end
end S2
namespace S2
open PySem PySem.Spec PyProof.Rows L2
section
variable{X:Cx}{cl:Cf}{E:St->XK}{e:Expr}{f:Fe}{pos':Pos}
noncomputable def eMt(g:List D->D->Option D)(i:Nat)(f:Fe):Fe:=fun ρ S=>match ρ[i]? with | some (some (_,.lst l))=>(f ρ S).bind fun d S1=>Out.of (g l d) S1 | _=>.bad
noncomputable def zdo(l:List D)(d:D):Option D:=if d.fit 8&&D.fits 8 l then some (.int ((l.countP (zeF · d):Nat):Int)) else none
noncomputable def zgu(l:List D)(d:D):Option D:=if d.fit 8&&D.fits 8 l&&decide (l.length<=1000000)&&zhU d l then some (.int ((l.findIdx (zeF · d):Nat):Int)) else none
def Rel.lstAny{B:Base}{σ:St}{w:Wd}{ρ:Env}{S:Sto}{i:Nat}{o:Bool}{l:List D}(R:Rel cl B σ w ρ S)(h:ρ[i]?=some (some (o,.lst l))):∃a xs,σ[i]?=some (some (.ref a))/\w.H a=some (.lst xs)/\Shds cl w xs l:=by
 cases o with
 | true=>obtain ⟨a,xs,e1,_,h2,t⟩:=R.list h;exact ⟨a,xs,e1,h2,t⟩
 | false =>
  obtain ⟨v,e1,sh⟩:=R.slots i false _ h
  cases sh with
  | lst ep k r=>exact ⟨_,_,e1,ep,r⟩
noncomputable def MtB(X:Cx)(cl:Cf)(id:String)(g:List D->D->Option D):Prop:=MtM X id fun x vs H Q=>∃(a:Addr) (xs:List V) (l:List D) (w:Wd) (d:D) (v:V) (r:Int),w.H=H/\x=.ref a/\vs=[v]/\w.H a=some (.lst xs)/\Shds cl w xs l/\TopV cl w v d/\g l d=some (.int r)/\Q (.int r) H
theorem zdR{s:Shared}{d:D}:∀{its:List Value} {ds:List D} {as:List Addr},ReadsAll s.heap its (D.pys ds) as->D.fits 8 ds=true->its.countP (fun y=>(SeqAt.readOf s.heap y).eqv d.py)=ds.countP (zeF · d)
 | [],[],_,_,_=>rfl
 | [],_::_,_,h,_=>by cases h
 | _::_,[],_,h,_=>by cases h
 | v::its,e::ds,_,h,f=>by
  simp only [D.fits,yab] at f
  cases h with
  | cons h1 h2 =>
   rw [ybV,ybV,zdR h2 f.2,zg4 (D.lay f.1).1 h1];rfl
theorem zdB{s:Shared}{d:D}:∀{its:List Value} {ds:List D} {as:List Addr},ReadsAll s.heap its (D.pys ds) as->D.fits 8 ds=true->∀(m:Nat) (hm:m<its.length),∃e,ds[m]?=some e/\(SeqAt.readOf s.heap its[m]).eqv d.py=zeF e d
 | [],_,_,_,_,m,hm=>by simp at hm
 | _::_,[],_,h,_,_,_=>by cases h
 | v::its,e::ds,_,h,f,m,hm=>by
  simp only [D.fits,yab] at f
  cases h with
  | cons h1 h2 =>
   cases m with
   | zero=>exact ⟨e,rfl,by show (SeqAt.readOf s.heap v).eqv d.py=_;rw [zg4 (D.lay f.1).1 h1];rfl⟩
   | succ m =>
    obtain ⟨e',h3,h4⟩:=zdB h2 f.2 m (by simpa using hm);exact ⟨e',by simpa using h3,by simpa using h4⟩
theorem zeW{s:Shared}:∀{its:List Value} {ds:List D} {as:List Addr},ReadsAll s.heap its (D.pys ds) as->its.length=ds.length
 | [],[],_,_=>rfl
 | [],_::_,_,h=>by cases h
 | _::_,[],_,h=>by cases h
 | _::its,_::ds,_,h=>by
  cases h with
  | cons _ h2=>rw [yap,yap,zeW h2]
def zlY(hK:X.K=cl.K)(hu:X.A.units+64<cLine):MtB X cl "list.count" zdo:=by
 intro pins s σ H x vs v us Q I rx rv h;obtain ⟨a,xs,l,w,d,v',r,rfl,rfl,rfl,hH,sh,tv,hg,q⟩:=h;unfold zdo at hg;split at hg
 ·rename_i hf;cases hg;rw [yab] at hf;cases rx;obtain ⟨u,rfl,ru⟩:=rv.one;obtain ⟨bs,rb⟩:=zgb I hK tv hf.1 ru;obtain ⟨z,its,n,r,hl,e⟩:=I.lstM hH;obtain ⟨as,ra⟩:=zcI I hK sh hf.2 r;refine ycc F.slot_list_count ⟨_,e,rfl⟩ F.entry_list_count (F.args_list_count_2 _ _) (SeqAt.list_countAt a _ n none #[] u (fun y=>(SeqAt.readOf s.heap y).eqv d.py)) ⟨e,fun y hy=>zbC hu rb hf.1 ra hf.2 y hy,?_⟩;rw [zdR ra hf.2];exact ⟨.int _,w.H,I.tok _,⟨_,rfl⟩,q⟩
 ·cases hg
def zlX(hK:X.K=cl.K)(hu:X.A.units+64<cLine):MtB X cl "list.index" zgu:=by
 intro pins s σ H x vs v us Q I rx rv h;obtain ⟨a,xs,l,w,d,v',r,rfl,rfl,rfl,hH,sh,tv,hg,q⟩:=h;unfold zgu at hg;split at hg
 ·rename_i hf;cases hg;simp only [yab,yay] at hf;obtain ⟨⟨⟨f1,f2⟩,f3⟩,f4⟩:=hf;cases rx;obtain ⟨u,rfl,ru⟩:=rv.one;obtain ⟨bs,rb⟩:=zgb I hK tv f1 ru;obtain ⟨z,its,n,r,hl,e⟩:=I.lstM hH;obtain ⟨as,ra⟩:=zcI I hK sh f2 r;have hlen:=zeW ra
  have hlt:l.findIdx (zeF · d)<l.length:=by
   rw [List.findIdx_lt_length];unfold zhU at f4;rwa [ycP] at f4
  refine ycc F.slot_list_index ⟨_,e,rfl⟩ F.entry_list_index (F.args_list_index_2 _ _) (SeqAt.list_indexAt a _ n none #[] u (fun y=>(SeqAt.readOf s.heap y).eqv d.py) (l.findIdx (zeF · d)) (by rw [yag];omega) (by omega) ?_ ?_) ⟨e,fun y hy=>zbC hu rb f1 ra f2 y hy,?_⟩
  ·obtain ⟨e',h1,h2⟩:=zdB (d:=d) ra f2 (l.findIdx (zeF · d)) (by omega);simp only [List.getElem_toArray];rw [h2];rw [yad hlt] at h1;cases h1;exact List.findIdx_getElem (w:=hlt)
  ·intro m hm hmj
   have lm:m<its.length:=by rwa [yag] at hm
   obtain ⟨e',h1,h2⟩:=zdB (d:=d) ra f2 m lm;simp only [List.getElem_toArray];rw [h2];rw [yad (by omega)] at h1;cases h1;exact List.not_of_lt_findIdx hmj
  ·exact ⟨.int _,w.H,I.tok _,⟨_,rfl⟩,q⟩
 ·cases hg
def zqt{i:Nat}{x name:Str}{id:String}{g:List D->D->Option D}{ap cp:Pos}(slot:Slot "list" name id)(hty:typeOf (.builtin id)=pure (.type "method_descriptor"))(hm:MtB X cl id g)(hgb:∀l d r,g l d=some r->∃n,r=.int n)
  (hN:X.N[i]?=some x) (hv:Vis X.env.scope x) (hd:(x == ("__debug__":Str))=false) (hcd:(x == ("__classdict__":Str))=false) (he:PE X e (tH cl E f)) (hpl:zbd e=true) (hln:(ap.endLine == cp.line)=true) :
  PE X (.Call (.Attribute (.Name x pos') name ap) [e] [] cp) (tE cl E (eMt g i f)):=by
 refine PE.imp (zlI (es:=[]) ybS slot hty hm (zbl hN hv hd hcd) (zjo he zmY (zaB hpl)) (hfew:=zev (by simp [hpl]) (by simp)) (hline:=hln) (hs:=zaB hpl) (hplain:=rfl)) ?_;rintro σ H Q ⟨B,w,ρ,S,rfl,R,q⟩
 have key:(∃o l,ρ[i]?=some (some (o,.lst l)))\/eMt g i f ρ S=.bad:=by
  unfold eMt;split
  ·rename_i o l hl;exact .inl ⟨o,l,hl⟩
  ·exact .inr rfl
 rcases key with ⟨o,l,hl⟩ | hb
 ·have e':eMt g i f ρ S=(f ρ S).bind fun d S1=>Out.of (g l d) S1:=by unfold eMt;rw [hl]
  rw [e'] at q;obtain ⟨a,xs,e1,h2,t⟩:=R.lstAny hl;refine ⟨_,e1,.inl ⟨rfl,_,SqL.of h2⟩,B,w,ρ,S,rfl,R,?_⟩
  cases hf:f ρ S with
  | bad=>rw [hf] at q;exact q.elim
  | exc c S1 =>
   rw [hf] at q;simp only [zah,hf,Out.bind];exact q
  | ok d S1 =>
   rw [hf] at q;simp only [zah,hf,Out.bind];intro vs w' R' F' sh;dsimp only [Out.bind] at q
   cases hg:g l d with
   | none=>rw [hg] at q;exact q.elim
   | some r =>
    rw [hg] at q;obtain ⟨n,rfl⟩:=hgb l d r hg;obtain ⟨a',xs',e1',h2',t'⟩:=R'.lstAny hl;rw [e1] at e1';cases e1'
    cases sh with
    | cons h1 hn =>
     cases hn;exact ⟨a,xs',l,w',d,_,n,rfl,rfl,rfl,h2',t',h1.top R',hg,q _ w' R' F' (.int _)⟩
 ·rw [hb] at q;exact q.elim
end
end S2
namespace S2
open PySem PySem.Spec PyProof.Rows L2
noncomputable def zyz(g:Str->Str->Option Bool)(C:Str):D->Option D
 | .exc c=>(g c C).map .bl
 | _=>none
noncomputable def zw4(cl:Cf)(C:Str):Value:=if C = "ValueError" then .type "ValueError" else .ref (cl C)
section
variable{X:Cx}{cl:Cf}{E:St->XK}{own:Bool}{e:Expr}{f fe:Fe}{pos pos':Pos}
def zpH:bootBuiltins "ValueError" = some (.type "ValueError"):=by decide +kernel
noncomputable def OpN(X:Cx)(cl:Cf)(op:Value->Value->Sem Value)(g:D->D->Option D):Prop:=OpR X op fun x y H Q=>∃w d e r,w.H=H/\TopV cl w x d/\TopV cl w y e/\g d e=some r/\∀p o w',Grow w w'->w'.H p=none->Top cl w' o r->Q (.ref p) (upd w'.H p o)
def zxD{a b:Expr}{h:Fe}{gg:D->D->Option D}{r2:R2}(hr:∀x y H Q,(∃w d e r,w.H=H/\TopV cl w x d/\TopV cl w y e/\gg d e=some r/\∀p o w',Grow w w'->w'.H p=none->Top cl w' o r->Q (.ref p) (upd w'.H p o))->r2 x y H Q)(σ:St)(H:Hp)(Q:VK)(q:tN cl E (zaj gg f h) σ H Q):tOp r2 (tH cl E f) (tH cl E h) σ H Q:=by
 obtain ⟨B,w,ρ,S,rfl,R,q⟩:=q;refine ⟨B,w,ρ,S,rfl,R,?_⟩;unfold zaj at q
 cases hf:f ρ S with
 | bad=>rwa [hf] at q
 | exc c S1=>rwa [hf] at q
 | ok d S1 =>
  rw [hf] at q;intro v w1 R1 F1 h1;refine ⟨B,w1,ρ,S1,rfl,R1,?_⟩;dsimp only [Out.bind] at q
  cases hh:h ρ S1 with
  | bad=>rwa [hh] at q
  | exc c S2=>rw [hh] at q;exact fun w2 R2 F2=>q w2 R2 (F1.trans F2)
  | ok e S2 =>
   rw [hh] at q;intro y w2 R2 F2 h2;dsimp only at q
   cases hg:gg d e with
   | none=>rw [hg] at q;exact q.elim
   | some r =>
    rw [hg] at q;exact hr _ _ _ _ ⟨w2,d,e,r,rfl,(h1.up F2).top R2,h2.top R2,hg,fun p o w' gr hp t=>q p o w' (R2.grow gr) (F1.trans (F2.trans gr.fut)) hp t⟩
noncomputable def ziA:D->D->Option D
 | .lst a,.int j=>if decide (0<=j/\j<=1000/\a.length<=1000) then some (.lst (List.replicate j.toNat a).flatten) else none
 | _,_=>none
def zoE:OpN X cl (binaryOp .Mult) ziA:=by
 intro pins s σ H x y v u Q I rx ry h;obtain ⟨w,d,e,r,rfl,hx,hy,hg,q⟩:=h;unfold ziA at hg;split at hg
 ·rename_i a j;split at hg
  ·rename_i hz;cases hg;have hz':=yaj hz;obtain ⟨p,xs,rfl,ep,rs⟩:=hx.lstI;obtain rfl:=hy.intI;have hl:=rs.length;refine znd pins s σ w.H _ _ v u Q I rx ry ⟨p,j,xs,rfl,rfl,ep,by omega,by omega,?_,fun l hl=>q l _ w (Grow.refl _) hl (.lst (rs.flat _))⟩;refine yaq (ybY (show xs.length<=1000 by omega) (show j.toNat<=1000 by omega)) (by decide)
  ·cases hg
 ·cases hg
def zoc{a b:Expr}{h:Fe}(ha:PE X a (tH cl E f))(hb:PE X b (tH cl E h)):PE X (.BinOp a .Mult b pos) (tN cl E (zaj ziA f h)) :=
 PE.imp (zq0 zoE ha hb) (zxD (a:=a) (b:=b) fun _ _ _ _ z=>z)
noncomputable def zo5:Expr->Bool | .List _ _=>true | _=>false
noncomputable def zrP:Operator->Bool | .Mult=>true | _=>false
noncomputable def zjv(i:Nat)(fi fe:Fe):Fs:=fun ρ S=>match ρ[i]? with
 | some (some (true,.lst l))=>(match fe ρ S with
  | .ok d S1=>(match fi ρ S1 with
   | .ok (.int n) S2=>(match ixN l.length n with | some k=>.nx (ρ.set i (some (true,.lst (l.set k d)))) S2 | none=>.bad)
   | .ok _ _=>.bad
   | .exc c S2=>.ex c ρ S2 | .bad=>.bad)
  | .exc c S1=>.ex c ρ S1 | .bad=>.bad)
 | _=>.bad
def znP{i:Nat}{x:Str}{ix:Expr}{fi:Fe}{p2 p3:Pos}(hN:X.N[i]?=some x)(hv:Vis X.env.scope x)(hd:(x == ("__debug__":Str))=false)(hcd:(x == ("__classdict__":Str))=false)
  (he:PE X e (tE cl E fe)) (hi:PE X ix (tH cl E fi)) (sw1:swapsWithSole [.Subscript (.Name x p2) ix p3] e pos.line X.env=pure false) (sw2:swappedStores [.Subscript (.Name x p2) ix p3] e X.env=pure none)
  (ha:∀v,assign (.Subscript (.Name x p2) ix p3) X.env v=(do
   let ov ← holding [v] (eval (.Name x p2) X.env)
   let iv ← holding [v,ov] (eval ix X.env)
   standAt p3
   holding [v,ov,iv] (setItem ov iv v)
   release [v,ov,iv] [])):PS X (.Assign [.Subscript (.Name x p2) ix p3] e pos) (tS cl E own (zjv i fi fe)):=by
 refine PS.imp (zhI he (zna (zbl hN hv hd hcd) hi zli ha) sw1 sw2 rfl) ?_;rintro De σ H ⟨B,w,ρ,S,rfl,R,q⟩;refine ⟨B,w,ρ,S,rfl,R,?_⟩;unfold zjv at q;split at q
 ·rename_i l hl
  cases hf:fe ρ S with
  | bad=>rwa [hf] at q
  | exc c S1=>rw [hf] at q;exact fun w' R' F'=>q σ w' R' F'
  | ok d S1 =>
   rw [hf] at q;intro v w1 R1 F1 h1;dsimp only at q;obtain ⟨a,xs,e1,h1',h2',t'⟩:=R1.list hl;refine ⟨_,e1,B,w1,ρ,S1,rfl,R1,?_⟩
   cases hfi:fi ρ S1 with
   | bad=>rwa [hfi] at q
   | exc c S2=>rw [hfi] at q;exact fun w' R' F'=>q σ w' R' (F1.trans F')
   | ok di S2 =>
    rw [hfi] at q;intro vi w2 R2 F2 h2
    cases di with
    | int n =>
     dsimp only at q;split at q
     ·rename_i k hk;obtain rfl:=(h2.top R2).intI;obtain ⟨a',xs',e1',g1,g2,t2⟩:=R2.list hl;rw [e1] at e1';cases e1';refine ⟨a,xs',n,k,rfl,rfl,g2,by rw [t2.length];exact hk,?_⟩;exact q σ (w2.mut a (.lst (xs'.set k v))) (R2.mut (d0:=.non) e1 g1 (.lst (t2.set (h1.up F2) k))) (F1.trans (F2.trans (zcj (by rw [g1];exact yaC _))))
     ·exact q.elim
    | _=>exact q.elim
 ·exact q.elim
end
end S2
namespace PySem.F
def zeh:Manifest.owners.lookup (String.ofList ['d','e','s','r','e','v','e','r'].reverse)=some Manifest.sig_reversed:=by kernel_rfl
def za7:Slot "reversed" "__next__" "reversed.__next__" :=
 .of (owner:="reversed") (n:="__next__") (by rw [ybr,yaY];kernel_rfl) (by decide +kernel) (by decide +kernel) (by decide +kernel)
  (by first | exact .inl (by decide +kernel) | exact .inr (by decide +kernel)) (by rw [ybn];kernel_rfl)
def zcK:entryFor table "reversed.__next__" = some Builtin.«reversed.__next__»:=ycQ (by kernel_rfl)
def zcu(a:Value):argsOk "reversed.__next__" ⟨[a],[]⟩:=by
 unfold argsOk;rw [ycU (id:="reversed.__next__") (n:=['_','_','t','x','e','n','_','_']) (o:=['d','e','s','r','e','v','e','r']) (by kernel_rfl) zeh];kernel_rfl
def zc7:Slot "reversed" "__iter__" "reversed.__iter__" :=
 .of (owner:="reversed") (n:="__iter__") (by rw [ybr,yaY];kernel_rfl) (by decide +kernel) (by decide +kernel) (by decide +kernel)
  (by first | exact .inl (by decide +kernel) | exact .inr (by decide +kernel)) (by rw [ybn];kernel_rfl)
def zeD(a:Value):argsOk "reversed.__iter__" ⟨[a],[]⟩:=by
 unfold argsOk;rw [ycU (id:="reversed.__iter__") (n:=['_','_','r','e','t','i','_','_']) (o:=['d','e','s','r','e','v','e','r']) (by kernel_rfl) zeh];kernel_rfl
def zbW:typeLookup (.type "tuple") "__reversed__" = pure none:=by rw [ybr,yaY];kernel_rfl
end PySem.F
namespace PySem.F
def zfc:Slot "reversed" "__init__" "object.__init__" :=
 .of (owner:="object") (n:="__init__") (by rw [ybr,yaY];kernel_rfl) (by decide +kernel) (by decide +kernel) (by decide +kernel)
  (by first | exact .inl (by decide +kernel) | exact .inr (by decide +kernel)) (by rw [ybn];kernel_rfl)
def zez:TypeCalled "reversed" "reversed.__new__" "object.__init__" :=
 ⟨by decide +kernel,by decide +kernel,⟨_,_,mro_reversed⟩,madeBy_type mro_reversed lookup_reversed_new (by decide +kernel),by decide +kernel,by rw [ybn];kernel_rfl,zfc⟩
end PySem.F
namespace L2
open PySem PySem.Spec PyProof.Rows
noncomputable def zm2(l:Addr)(i:Int):Obj:={ cls:=.type "reversed",data:=.fields #[.ref l,rawInt i] }
def zdi(l:Addr)(xs:Array Value) :
  Meets (Builtin.«reversed.__new__» ⟨[.type "reversed",.ref l],[]⟩) (fun _ R s=>IsTup s.heap l xs/\xs.size<=sizeLine ∧
   R (.ok (.ret (.ref s.heap.objs.size))) { s with heap:=s.heap.push (zm2 l ((xs.size:Int)-1)),toks:=s.toks+1+1 }) :=
 .of_wp fun prog w A R s h=>by
  obtain ⟨hp,g,d,tk,os⟩:=s;obtain ⟨hl,hz,h⟩:=h;have hsub:=F.sub_reversed_self
  have hT:(Shared.mk hp g d tk os).TypeIs (.ref l) "tuple":=by obtain ⟨o,ho,hc,_⟩:=hl;exact ⟨o,ho,hc⟩
  have hno:=F.zbW
  have hdc:isSubtype (.type "tuple") (.type "dict")=pure false:=by rw [ybn];kernel_rfl
  have hfit:(xs.size:Int)<9223372036854775808:=by
   have:sizeLine<9223372036854775808:=by decide
   omega
  unfold Builtin.«reversed.__new__»;refine yaa (ybi (newClass_reversed _) ?_)
  try dsimp only
  refine yaa (ybi (a:=()) (by first | rfl | kernel_rfl) ?_);refine yaa (ybi (a:=()) (by first | rfl | kernel_rfl) ?_)
  try dsimp only
  refine yaa (ybC hT F.zbW ?_)
  try dsimp only
  refine yaa ?_;show wpAny _ _ (isInstance (.ref l) (.type "dict") >>= _) _ _ _;refine yaa (ybE hT hdc ?_);simp only [yax,ybm];refine yaa (ybC hT F.slot_tuple_getitem.lookup ?_);dsimp only;rw [if_pos (by decide)];refine yac ?_;simp only [ycd,yax,ybm];refine yaa (len_tuple hl hfit ?_)
  wp_walk
  exact ⟨_,rfl,h⟩
section
variable{prog:Program}{w:World}{A:Around}{E:Z5}{s:Shared}
noncomputable abbrev IsRev(h:Heap)(it l:Addr)(i:Int):Prop:=h.get? it=some (zm2 l i)
def zcL{l:Addr}{xs:Array Value}{Q:Z5}(hl:IsTup s.heap l xs)(hz:xs.size<=sizeLine)
  (h:Q (.ref s.heap.objs.size) { s with heap:=s.heap.push (zm2 l ((xs.size:Int)-1)),toks:=s.toks+1+1 }):wpAny (model prog w) A (call (.type "reversed") [.ref l]) Q E s:=by
 refine callType_new F.zez (by decide) (F.typeCall_reversed_1 _) (F.newCall_reversed_1 _) (fun obj=>F.args_object_init_2 obj _) F.entry_reversed_new (zdi l xs) ⟨hl,hz,?_⟩;exact ⟨⟨_,yak _ rfl,rfl⟩,h⟩
def zdy{it l:Addr}{i:Int}{Q:Z5}(hit:IsRev s.heap it l i)(h:Q (.ref it) s):wpAny (model prog w) A (pyIter (.ref it)) Q E s:=by
 have hT:s.TypeIs (.ref it) "reversed":=⟨_,hit,rfl⟩;refine ydj hT F.zc7 (yaS F.zc7 hT (show entryFor table "reversed.__iter__" = some Builtin.«dict_keyiterator.__iter__» from entryFor_alias (id':="dict_keyiterator.__iter__") (by kernel_rfl) (by first | rfl | decide +kernel | (unfold String.splitOn;simp +decide [String.splitOnAux])) (by decide +kernel) (by kernel_rfl)) ?_ (F.zeD _));show wpAny _ _ (ret (.ref it)) _ _ s;exact yac ⟨_,rfl,"reversed",_,hT,F.za7.lookup,h⟩
def zdf{it l:Addr}{i:Nat}{xs:Array Value}{x:Value}{Q:Option Value->Shared->Prop}(hit:IsRev s.heap it l (i:Int))(hl:IsTup s.heap l xs)(hz:xs.size<=sizeLine)(hx:xs[i]?=some x)
  (hQ:∀h' tk,IsRev h' it l ((i:Int)-1)->Heap.SameBut it s.heap h'->Q (some x) { s with heap:=h',toks:=tk }):wpAny (model prog w) A (pyNext (.ref it)) Q E s:=by
 have hT:s.TypeIs (.ref it) "reversed":=⟨_,hit,rfl⟩
 have hTl:s.TypeIs (.ref l) "tuple":=by obtain ⟨o,ho,hc,_⟩:=hl;exact ⟨o,ho,hc⟩
 unfold pyNext
 refine yaa (ycx (ybg (name:=Str.ofString "__next__") hT F.za7
  (yaS F.za7 hT F.zcK ?_ (F.zcu _))))
 unfold Builtin.«reversed.__next__»;refine yaa (ybi (a:=(Value.ref it,[])) rfl ?_)
 try dsimp only
 refine yaa (ybR hit rfl (x:=.ref l) rfl ?_);refine yaa (ybR hit rfl (x:=rawInt (i:Int)) rfl ?_);show wpAny _ _ (if (i:Int)<0 then _ else _) _ _ s;rw [if_neg (by omega)];have hi:i<xs.size:=(Array.getElem?_eq_some_iff.mp hx).1
 have hsl:sizeLine<9223372036854775808:=by decide
 refine yaa (ybC hTl F.slot_tuple_getitem.lookup ?_);simp only [Option.isNone_some,yax,ybm];refine yaa (wpAny_mkInt ?_);refine yaa (ycx (getItem_tuple (s:={ s with toks:=s.toks+1 }) (j:=i) (x:=x) hl (by omega) (by omega) ?_ hx ?_))
 ·rw [seqIndex?];simp;omega
 dsimp only;refine yaa (ybR (s:={ s with toks:=s.toks+1 }) hit rfl (x:=rawInt (i:Int)) rfl ?_);refine yaa (ydb (s:={ s with toks:=s.toks+1 }) hit (by simp) fun h' hz' hs'=>?_);exact yac ⟨x,rfl,yac (hQ h' _ hz' hs')⟩
def zdM{it l:Addr}{Q:Option Value->Shared->Prop}(hh:A.handled=none)(hit:IsRev s.heap it l (-1))
  (hQ:∀h' tk,Heap.ExtBut it s.heap h'->Q none { s with heap:=h',toks:=tk }):wpAny (model prog w) A (pyNext (.ref it)) Q E s:=by
 have hT:s.TypeIs (.ref it) "reversed":=⟨_,hit,rfl⟩;unfold pyNext
 refine yaa (ycx (ybg (name:=Str.ofString "__next__") hT F.za7
  (yaS F.za7 hT F.zcK ?_ (F.zcu _))))
 unfold Builtin.«reversed.__next__»;refine yaa (ybi (a:=(Value.ref it,[])) rfl ?_)
 try dsimp only
 refine yaa (ybR hit rfl (x:=.ref l) rfl ?_);refine yaa (ybR hit rfl (x:=rawInt (-1)) rfl ?_);show wpAny _ _ (if (-1:Int)<0 then _ else _) _ _ s;rw [if_pos (by decide)];refine yaa (yco ?_);refine yaa ?_;show wpAny _ _ (setField (.ref it) 1 (rawInt (-1)) >>= _) _ _ s;refine yaa (ydb hit (by simp) fun h1 hz1 hs1=>?_);refine ydb hz1 (by simp) fun h2 hz2 hs2=>?_
 have hx2:Heap.ExtBut it s.heap h2:=fun b o hb e=>hs2.extBut b o hb (hs1.extBut b o hb e)
 refine yaa ?_;show wpAny _ _ (newExc (.type "StopIteration") [] >>= _) _ _ _;refine yaa ?_;simp only [newExc,newTuple];refine yaa (yaR ?_ (by size_fits));refine yaa (m:=firstArgMember _ _) (ybi (a:=Value.none) (by first | rfl | (simp only [firstArgMember];rfl)) ?_);refine yaR ?_ (by size_fits);simp only [raiseNew];refine yaa (wpAny_handled ?_)
 first | rw [show A.in1.handled=none from hh] | rw [hh]
 refine yaa (yac (wpAny_throw ?_));refine yaa (ybE (T:="StopIteration") (b:=true) ⟨_,yak _ rfl,rfl⟩ isSubtype_stop ?_);exact yac (hQ _ _ ((hx2.push _).push _))
end
end L2
namespace L2
open PySem PySem.Spec PyProof.Rows
noncomputable def Itv(K:PySem.W.Frag)(a:Addr)(n:Nat):It :=
 ⟨fun i H=>∃xs x,SqT K H a xs/\xs.length=n/\xs.reverse[i]?=some x,fun i H x H'=>H'=H/\∀xs,SqT K H a xs->xs.reverse[i]?=some x,fun i H=>∃xs,SqT K H a xs/\xs.length=n/\n<=i⟩
def zlb{P:Program}{w:World}{K:PySem.W.Frag}{tg:Expr}(a it:Addr)(n:Nat):Turn P w K tg (Itv K a n) [it] it (fun i h=>i<=n/\IsRev h it a ((n:Int)-1-(i:Int))) where
 mem:=by simp
 obj:=fun i h st b hb=>by
  have e:b=it:=by simpa using hb
  subst e;exact ⟨_,st.2,fun v z=>by cases z⟩
 keep:=fun i h h' st k=>⟨st.1,k it (by simp) _ st.2⟩
 item:=by
  intro X hP hw hK hc i pins s σ H E I hf st hg;subst hP hw hK;obtain ⟨xs,x,hq,hn,hx⟩:=hg;obtain ⟨its,rv,p,hz⟩:=I.tuple hq;have hl:=rv.length
  have hi:i<xs.length:=by have:=(yam.mp hx).1;simpa using this
  have hx':xs[n-1-i]?=some x:=by
   rw [yb8 hi] at hx;rw [<-hn];exact hx
  obtain ⟨u,hu,ru⟩:=rv.get hx';obtain ⟨f0,f1,f2,f3,f4,f5⟩:=hf it (by simp)
  have e1:(n:Int)-1-(i:Int)=((n-1-i:Nat):Int):=by omega
  have st2:=st.2;rw [e1] at st2;refine zdf st2 p (by rw [yag];omega) (x:=u) (by simpa using hu) fun h' tk st' sb=>?_
  have I1:Inv X pins σ H { s with heap:=h',toks:=tk }:=I.turned (t':=tk) (fun b o hb e=>(sb.2 b hb).trans e) f0 f1 f3 f4 f5
  have e2:((n-1-i:Nat):Int)-1=(n:Int)-1-((i+1:Nat):Int):=by omega
  rw [e2] at st';exact ⟨u,rfl,zmj (s:={ s with heap:=h',toks:=tk }) st' rfl rfl (by decide) ⟨x,H,I1,ru,⟨rfl,fun ys hy=>by rw [I.tuple_inj hy hq];exact hx⟩,⟨by omega,st'⟩,fun b hb=>(hf b hb).1⟩⟩
 done:=by
  intro X hP hw hK hc i pins s σ H E I hf st hg;subst hP hw hK;obtain ⟨xs,hq,hn,hx⟩:=hg;obtain ⟨f0,f1,f2,f3,f4,f5⟩:=hf it (by simp);have st2:=st.2
  have hin:(n:Int)-1-(i:Int)=-1:=by have:=st.1;omega
  rw [hin] at st2;exact zdM (I.ok.hd hc) st2 fun h' tk eb=>⟨rfl,I.turned (t':=tk) (fun b o hb e=>eb b o hb e) f0 f1 f3 f4 f5⟩
 self:=fun _ _ _ _ _ st h=>zdy st.2 h
def zib:bootBuiltins "reversed" = some (.type "reversed"):=by decide +kernel
section
variable{X:Cx}
noncomputable def zyC(K:PySem.W.Frag)(ta:TA):TI:=fun σ H R=>ta σ H fun vs H1=>∃b xs,vs=[.ref b]/\SqT K H1 b xs/\R (Itv K b xs.length) H1
def zqY{K:PySem.W.Frag}{tg a:Expr}{ta:TA}{p pos:Pos}(hg:Gl X "reversed")(hm:X.mg "reversed" = none)(ha:PA X [a] ta)(hK:X.K=K:=by rfl)(hs:starEach [a] X.env=[(false,eval a X.env)]:=by rfl) :
  PI X tg (.Call (.Name "reversed" p) [a] [] pos) (zyC K ta):=by
 subst hK;intro pins s σ H R I h;refine Call_ (zdO I hg hm zib (ya6 (thn (ha pos pins s σ H _ I h) fun us s1 ⟨vs,H1,I1,r1,q1⟩=>?_) hs rfl));obtain ⟨b,xs,e,hq,q⟩:=q1;subst e
 cases r1 with
 | cons r rr =>
  cases rr;cases r;obtain ⟨its,rv,pl,hz⟩:=I1.tuple hq;have hl:=rv.length;refine zcL (xs:=its.toArray) pl (by rw [yag];omega) ?_
  have g:IsRev (s1.heap.push (zm2 b ((its.toArray.size:Int)-1))) s1.heap.objs.size b ((xs.length:Int)-1-((0:Nat):Int)):=by
   rw [show (xs.length:Int)-1-((0:Nat):Int)=(its.toArray.size:Int)-1 by simp [hl]];exact yak _ rfl
  refine zdy g ?_;refine ⟨s1.heap.objs.size,[s1.heap.objs.size],_,_,H1,rfl,I1.kept (t':=s1.toks+1+1) fun c o x=>yae _ x,zlb b _ xs.length,⟨yaL _,g⟩,fun c hb=>?_,q⟩
  have:c=s1.heap.objs.size:=by simpa using hb
  subst this;exact I1.fpOk (yah _) (I1.hok.fresh (yah _))
end
end L2
namespace PySem.F
def zb1:Slot "reversed" "__length_hint__" "reversed.__length_hint__" :=
 .of (owner:="reversed") (n:="__length_hint__") (by rw [ybr,yaY];kernel_rfl) (by decide +kernel) (by decide +kernel) (by decide +kernel)
  (by first | exact .inl (by decide +kernel) | exact .inr (by decide +kernel)) (by rw [ybn];kernel_rfl)
def zeM:entryFor table "reversed.__length_hint__" = some Builtin.«reversed.__length_hint__»:=ycQ (by kernel_rfl)
def zeE(a:Value):argsOk "reversed.__length_hint__" ⟨[a],[]⟩:=by
 unfold argsOk;rw [ycU (id:="reversed.__length_hint__") (n:=['_','_','t','n','i','h','_','h','t','g','n','e','l','_','_']) (o:=['d','e','s','r','e','v','e','r']) (by kernel_rfl) zeh];kernel_rfl
def zjZ:typeLookup (.type "reversed") "__len__" = pure none:=by rw [ybr,yaY];kernel_rfl
end PySem.F
namespace L2
open PySem PySem.Spec PyProof.Rows
section
variable{prog:Program}{w:World}{A:Around}{E:Z5}{s:Shared}
def zfM{it l:Addr}{xs:Array Value}{Q:Z5}(hit:IsRev s.heap it l ((xs.size:Int)-1))(hl:IsTup s.heap l xs)(hz:xs.size<=sizeLine)
  (h:∀u tk,s.toks<=tk->Q (.int xs.size u) { s with toks:=tk }):wpAny (model prog w) A (call (.builtin "reversed.__length_hint__") [.ref it]) Q E s:=by
 have hT:s.TypeIs (.ref it) "reversed":=⟨_,hit,rfl⟩
 have hfit:(xs.size:Int)<9223372036854775808:=by
  have:sizeLine<9223372036854775808:=by decide
  omega
 refine yaS F.zb1 hT F.zeM ?_ (F.zeE _);unfold Builtin.«reversed.__length_hint__»;refine yaa (ybi (a:=Value.ref it) rfl ?_);refine yaa (ybR hit rfl (x:=.ref l) rfl ?_);show wpAny _ _ (if (Value.ref l == Value.none)=true then _ else _) _ _ s;rw [if_neg (show ¬ ((Value.ref l == Value.none)=true) from yaU)];refine yaa (len_tuple hl hfit ?_);refine yaa (m:=asInt? (.int xs.size (s.toks+1))) (yac ?_);dsimp only;refine yaa (ybR (s:={ s with toks:=s.toks+1+1 }) hit rfl (x:=rawInt ((xs.size:Int)-1)) rfl ?_);show wpAny _ _ (if (xs.size:Int)<(xs.size:Int)-1+1 then _ else _) _ _ _;rw [if_neg (by omega)];refine yaa (wpAny_mkInt (yac ⟨_,rfl,?_⟩));rw [show (xs.size:Int)-1+1=xs.size by omega];exact h _ _ (by show s.toks<=s.toks+1+1+1;omega)
def zdu{I:Addr}{fp wr:List Addr}{G:Array GenState->Array GenState->Prop}{n:Nat}{P:Nat->Value->Prop}{St:Nat->Shared->Prop}{Q:List Value->Shared->Prop}
  (W:WalksS prog w A.in1 I fp wr G n P St) (hT:∀i s,St i s->s.TypeIs (.ref I) "reversed") (hst:St 0 s) (hfp:∀b∈fp,b<s.heap.objs.size) (hI:I∈fp) (h0:1<=n)
  (hhint:∀(s₁:Shared) (Q':Z5) (E':Z5),St 0 s₁->(∀u tk,s₁.toks<=tk->Q' (.int n u) { s₁ with toks:=tk })->wpAny (model prog w) A.in1 (call (.builtin "reversed.__length_hint__") [.ref I]) Q' E' s₁)
  (hQ:∀s' acc,Moved wr G s s'->ItemsOf P acc n->Q acc.toList s') (hn:n<=sizeLine):wpAny (model prog w) A (collect (.ref I)) Q E s:=by
 have hSf:s.heap.objs.size ∉ fp:=fun hm=>ya4 _ (hfp _ hm)
 have hSI:s.heap.objs.size≠I:=fun e=>hSf (e ▸ hI)
 unfold collect;refine yaa (wpAny_runValue (ybs F.entry_proto_collect ?_));rw [ya8 F.plain_proto_collect _];show wpAny _ A.in1 (newList [] >>= fun l=>again (.builtin "list.__iadd__" ⟨[l,.ref I],[]⟩)) _ _ s;refine yaa (yaR ?_);refine yac ⟨yce F.plain_list_iadd _,ybs F.entry_list_iadd ?_⟩;rw [ya8 F.plain_list_iadd _];have hst₁:=W.frame 0 s (s.heap.push { cls:=.type "list",data:=.seq ([]:List Value).toArray }) s.toks hst (yah _) fun b _ o e=>yae _ e
 have hS₁:(s.heap.push { cls:=.type "list",data:=.seq ([]:List Value).toArray }).get? s.heap.objs.size=some { cls:=.type "list",data:=.seq ([]:List Value).toArray }:=yak _ rfl
 have h1:Builtin.List.listSameRef (.ref s.heap.objs.size) (.ref I)=false:=by simp [Builtin.List.listSameRef,hSI]
 show wpAny _ A.in1 (Builtin.List.listExtendWith (.ref s.heap.objs.size) (.ref I) (.ref s.heap.objs.size)) _ _ _;unfold Builtin.List.listExtendWith;refine yaa (ybH (hT 0 _ hst₁) ?_);rw [if_neg (by rw [h1];decide)];refine yaa (W.self 0 _ _ _ hst₁ ?_);refine yaa (yaW ?_);unfold Builtin.List.listLengthHint;refine yaa (ybC (hT 0 _ hst₁) F.zjZ ?_);show wpAny _ A.in1 (specialOf (Value.ref I) (Str.ofString "__length_hint__") >>= _) _ _ _;refine yaa (ybC (hT 0 _ hst₁) F.zb1.lookup ?_)
 (generalize hid:("reversed.__length_hint__":String)=id0;(fail_if_success (clear hid id0));wp_delta;rw [show splitId id0=some ("reversed","__length_hint__") from by subst hid;decide +kernel];subst hid)
 refine yaa (ybE (b:=true) (hT 0 _ hst₁) (by rw [ybn];kernel_rfl) ?_);show wpAny _ A.in1 (rule "list.length-hint.hint" >>= _) _ _ _;refine yaa (yco ?_);refine yaa (ybi (F.zb1.bind _) ?_);dsimp only;refine yaa (ycx (hhint _ _ _ hst₁ fun u tk htk=>?_))
 have hsl:sizeLine<9223372036854775808:=by decide
 have ei:asInt? (.int (n:Int) u)=pure (some (n:Int)):=rfl
 have f1:Builtin.List.listFitsIndex (n:Int)=true:=by
  unfold Builtin.List.listFitsIndex;rw [yab,yay,yay];exact ⟨by omega,by omega⟩
 have f2:Builtin.List.listTooLong ((n:Int).toNat)=false:=by
  unfold Builtin.List.listTooLong;exact yaE (by omega)
 simp only [ei,pure_bind,f1,f2,ycd,yax,ybm];rw [if_neg (show ¬ (n:Int)<0 by omega)];refine yac ?_
 have f3:((n:Int) != 0)=true:=by simp;omega
 rw [f3];have hst₂:=W.frame 0 _ _ tk hst₁ htk fun b _ o e=>e
 show wpAny _ A.in1 (rule "list.extend.makes-room" >>= fun _=>Builtin.List.listTouch (.ref s.heap.objs.size) >>= fun _ =>
  again (.builtin "list.extend.loop" ⟨[.ref s.heap.objs.size,.ref I,.ref s.heap.objs.size],[]⟩)) _ _ _
 refine yaa (yco ?_);refine yaa ?_;show wpAny _ A.in1 (updateSeq s.heap.objs.size (·.push .none) >>= fun _=>updateSeq s.heap.objs.size (·.pop)) _ _ _;refine yaa (wpAny_updateSeq hS₁ rfl ?_);have hS₂:=ybq (Obj.mapSeq (·.push Value.none)) hS₁ rfl;refine wpAny_updateSeq hS₂ rfl ?_;have hS₃:=ybq (Obj.mapSeq (·.pop)) hS₂ rfl
 have oth:∀b o,b≠s.heap.objs.size->(s.heap.push { cls:=.type "list",data:=.seq ([]:List Value).toArray }).get? b=some o →
   (((s.heap.push { cls:=.type "list",data:=.seq ([]:List Value).toArray }).update s.heap.objs.size (Obj.mapSeq (·.push Value.none))).update s.heap.objs.size (Obj.mapSeq (·.pop))).get? b=some o :=
  fun b o hb e=>(ybZ _ _ (Ne.symm hb)).trans ((ybZ _ _ (Ne.symm hb)).trans e)
 refine yac ⟨yce F.plain_extend_loop _,codeAny_extend_loopS W hn _ hSf _ n 0 _ _ _ rfl (yaL _)
  (W.frame 0 ({ s with heap:=s.heap.push { cls:=.type "list",data:=.seq ([]:List Value).toArray },toks:=tk }:Shared) _ tk hst₂ (yah _) fun b hb o e=>oth b o (fun h=>hSf (h ▸ hb)) e) hS₃ (ItemsOf.nil P) fun s' acc' c' hm hS' hacc=>?_⟩
 show wpAny _ A (load s.heap.objs.size >>= _) _ _ s';refine yaa (wpAny_load hS' ?_);refine yac (hQ s' acc' (Moved.drop_new (o:={ cls:=.type "list",data:=.seq ([]:List Value).toArray }) (tk:=tk) (Moved.trans W.gtrans ((Moved.refl W.grefl).then_heap (by first | exact yah _ | exact ybu _ | omega) fun b o hb e=>?_) hm) htk) hacc);exact oth b o (fun h=>hb (h ▸ yaD)) e
def zi4(hh:A.handled=none)(I l:Addr)(hne:l≠I)(items:Array Value)(hz:items.size<=sizeLine) :
  Walks prog w A I [I,l] [I] items.size (fun i v=>items[items.size-1-i]?=some v) (fun i h=>i<=items.size/\IsRev h I l ((items.size:Int)-1-(i:Int))/\IsTup h l items) where
 sub:=fun b hb=>by simp at hb;simp [hb]
 frame:=fun _ _ _ x hk=>⟨x.1,hk I (by simp) _ x.2.1,by obtain ⟨o,ho,r⟩:=x.2.2;exact ⟨o,hk l (by simp) o ho,r⟩⟩
 item:=fun i s Q E hi x hQ=>by
  have e:(items.size:Int)-1-(i:Int)=((items.size-1-i:Nat):Int):=by omega
  have hit:=x.2.1;rw [e] at hit;have hx:items[items.size-1-i]?=some (items[items.size-1-i]'(by omega)):=ya1 (by omega);refine zdf hit x.2.2 hz hx fun h' tk hit' hs'=>?_
  have e2:((items.size-1-i:Nat):Int)-1=(items.size:Int)-1-((i+1:Nat):Int):=by omega
  rw [e2] at hit';exact hQ _ h' tk hx ⟨hi,hit',by obtain ⟨o,ho,r⟩:=x.2.2;exact ⟨o,(hs'.2 l hne).trans ho,r⟩⟩ fun b o hb eo=>hs'.extBut b o (fun h=>hb (by simp [h])) eo
 done:=fun s Q E x hQ=>by
  have e:(items.size:Int)-1-(items.size:Int)=-1:=by omega
  have hit:=x.2.1;rw [e] at hit;exact zdM hh hit fun h' tk he'=>hQ h' tk fun b o hb eo=>he' b o (fun h=>hb (by simp [h])) eo
 self:=fun _ _ _ _ x hQ=>zdy x.2.1 hQ
def zdp{I:Addr}{fp wr:List Addr}{G:Array GenState->Array GenState->Prop}{n:Nat}{P:Nat->Value->Prop}{St:Nat->Shared->Prop}{Q₁:Z5}(W:WalksS prog w A.in1.in1 I fp wr G n P St)(hT:∀i s,St i s->s.TypeIs (.ref I) "reversed")(hst:St 0 s)(hfp:∀b∈fp,b<s.heap.objs.size)(hI:I∈fp)(h0:1<=n)
  (hhint:∀(s₁:Shared) (Q':Z5) (E':Z5),St 0 s₁->(∀u tk,s₁.toks<=tk->Q' (.int n u) { s₁ with toks:=tk })->wpAny (model prog w) A.in1.in1 (call (.builtin "reversed.__length_hint__") [.ref I]) Q' E' s₁)
  (h:∀s' acc,Moved wr G s s'->ItemsOf P acc n->Q₁ (.ref s'.heap.objs.size) { s' with heap:=s'.heap.push { cls:=.type "tuple",data:=.seq acc } }) (hsz:n<=sizeLine) :
  codeAny (model prog w) A (.call (.builtin "tuple.__new__") ⟨[.type "tuple",.ref I],[]⟩) (wants Q₁ E) s:=by
 refine codeAny_of_tree ?_;show wpAny _ A.in1 (do checkBuiltinCall "tuple.__new__" ⟨[.type "tuple",.ref I],[]⟩;again (.builtin "tuple.__new__" ⟨[.type "tuple",.ref I],[]⟩)) _ _ s;refine yaa (ybi (F.newCall_tuple_1 _) (yac ⟨yce F.plain_tuple_new _,ybs F.entry_tuple_new ?_⟩));rw [ya8 F.plain_tuple_new _];have hsub:=sub_tuple_self;have hinit:=init_tuple_lookup;have hmh:=madeHere_tuple;have hTI:=hT 0 s hst
 wp_walk using ybH hTI,zdu W hT hst hfp hI h0 hhint (hn:=hsz)
 intro s' acc hm hacc;show wpAny _ _ (Builtin.Tuple.tupleExact acc.toList.toArray >>= fun v=>ret v) _ _ _;unfold Builtin.Tuple.tupleExact;refine yaa (yaR ?_ (by show acc.toList.toArray.size<=sizeLine;simp only [Array.toArray_toList];rw [hacc.1];exact hsz));refine yac ?_
 have e:acc.toList.toArray=acc:=by simp
 rw [e];exact h s' acc hm hacc
def zeP{I:Addr}{fp wr:List Addr}{G:Array GenState->Array GenState->Prop}{n:Nat}{P:Nat->Value->Prop}{St:Nat->Shared->Prop}{Q:Z5}(W:WalksS prog w A.in1.in1.in1 I fp wr G n P St)(hT:∀i s,St i s->s.TypeIs (.ref I) "reversed")(hst:St 0 s)(hfp:∀b∈fp,b<s.heap.objs.size)(hI:I∈fp)(h0:1<=n)
  (hhint:∀(s₁:Shared) (Q':Z5) (E':Z5),St 0 s₁->(∀u tk,s₁.toks<=tk->Q' (.int n u) { s₁ with toks:=tk })->wpAny (model prog w) A.in1.in1.in1 (call (.builtin "reversed.__length_hint__") [.ref I]) Q' E' s₁)
  (hQ:∀s' acc,Moved wr G s s'->ItemsOf P acc n->Q (.ref s'.heap.objs.size) { s' with heap:=s'.heap.push { cls:=.type "tuple",data:=.seq acc } }) (hsz:n<=sizeLine) :
  wpAny (model prog w) A (call (.type "tuple") [.ref I]) Q E s:=by
 refine callType_codes (Q₁:=fun obj s₁=>s₁.TypeIs obj "tuple" /\ Q obj s₁) F.called_tuple (F.typeCall_tuple_1 _) F.entry_object_init
  (zdp (hsz:=hsz) W hT hst hfp hI h0 hhint fun s' acc hm hacc=>⟨⟨_,yak _ rfl,rfl⟩,hQ s' acc hm hacc⟩) fun obj s₁ h₁=>?_
 exact ⟨h₁.1,F.args_object_init_2 obj _,object_init_meets F.called_tuple.init.lookup F.called_tuple.made (by decide) prog w A.in1 _ s₁ ⟨h₁.1,rfl,h₁.2⟩⟩
end
end L2
namespace L2
open PySem PySem.Spec PyProof.Rows
section
variable{X:Cx}
def zmF:bootBuiltins "tuple" = some (.type "tuple"):=by decide +kernel
def zlU{wr:List Addr}{s s':Shared}(m:Moved wr (fun a b=>b=a) s s'):s'={ s with heap:=s'.heap,toks:=s'.toks }:=by
 obtain ⟨hp,g,d,tk,os⟩:=s;obtain ⟨hp',g',d',tk',os'⟩:=s';have h1:g'=g:=m.gens;have h2:d'=d:=m.drawn;have h3:os'=os:=m.os;subst h1 h2 h3;rfl
def zjP{a:Expr}{ta:TA}{p p2 pos pos2:Pos}(hc:X.calm=true)(hg:Gl X "tuple")(hm:X.mg "tuple" = none)(hg2:Gl X "reversed")(hm2:X.mg "reversed" = none)(ha:PA X [a] ta)(hs:starEach [a] X.env=[(false,eval a X.env)]) :
  PE X (.Call (.Name "tuple" p) [.Call (.Name "reversed" p2) [a] [] pos2] [] pos) (fun σ H Q=>ta σ H fun vs H1=>∃b xs,vs=[.ref b]/\SqT X.K H1 b xs/\1<=xs.length/\∀p,H1 p=none->Q (.ref p) (upd H1 p (.tup xs.reverse))):=by
 intro pins s σ H Q I h;refine ybG (zdO I hg hm zmF ?_ (by decide) (by decide));refine ya6 ?_ rfl rfl;show wpAny _ _ (spliced ((false,eval (.Call (.Name "reversed" p2) [a] [] pos2) X.env)::[])) _ _ s;refine ybF ?_;refine Call_ (zdO I hg2 hm2 zib (ya6 (thn (ha pos2 pins s σ H _ I h) fun us s1 ⟨vs,H1,I1,r1,q1⟩=>?_) hs rfl));obtain ⟨b,xs,e,hq,h1,q⟩:=q1;subst e
 cases r1 with
 | cons r rr =>
  cases rr;cases r;obtain ⟨its,rv,pl,hz⟩:=I1.tuple hq;have hl:=rv.length;refine zcL (xs:=its.toArray) pl (by rw [yag];omega) ?_;refine ycG ?_;have hblt:b<s1.heap.objs.size:=pl.lt;have hne:b≠s1.heap.objs.size:=yar hblt;have fr:=I1.fpOk (yah _) (I1.hok.fresh (yah _));obtain ⟨f0,f1,f2,f3,f4,f5⟩:=fr;have I2:Inv X pins σ H1 { s1 with heap:=s1.heap.push (zm2 b ((its.toArray.size:Int)-1)),toks:=s1.toks+1+1 }:=I1.kept (t':=s1.toks+1+1) fun c o x=>yae _ x
  have g:IsRev (s1.heap.push (zm2 b ((its.toArray.size:Int)-1))) s1.heap.objs.size b ((its.toArray.size:Int)-1):=yak _ rfl
  have pl2:IsTup (s1.heap.push (zm2 b ((its.toArray.size:Int)-1))) b its.toArray:=by obtain ⟨o,ho,c⟩:=pl;exact ⟨o,yae _ ho,c⟩
  have hsz:its.toArray.size<=sizeLine:=by rw [yag];omega
  refine zeP (I:=s1.heap.objs.size) (zi4 (A:=X.A.in1.in1.in1) (I1.ok.hd hc) s1.heap.objs.size b hne its.toArray hsz).toS (fun i s st=>⟨_,st.2.1,rfl⟩) ⟨yaL _,by simpa using g,pl2⟩ ?_ (by simp) (by rw [yag];omega) (fun s₁ Q' E' st hQ=>zfM (by simpa using st.2.1) st.2.2 hsz hQ) (fun s' acc mv ho=>?_) hsz
  ·intro c hcm
   have hs2:(s1.heap.push (zm2 b ((its.toArray.size:Int)-1))).objs.size=s1.heap.objs.size+1:=by simp [Heap.push]
   show c<(s1.heap.push _).objs.size;rw [hs2];simp at hcm
   rcases hcm with rfl | rfl
   ·exact ybU _
   ·exact ya0 hblt
  ·have I3:Inv X pins σ H1 s':=by
    rw [zlU mv];exact I2.turned (t':=s'.toks) (fun c o hcn e=>mv.heap c o (by simpa using hcn) e) f0 f1 f3 f4 f5
   have hacc:acc.toList=its.reverse:=by
    have hsz':acc.size=its.length:=by rw [ho.1,yag]
    apply yby;intro i
    by_cases hi:i<its.length
    ·have e0:acc[i]?=some (acc[i]'(by omega)):=ya1 (by omega);have e1:=ho.2 i _ e0;rw [yb8 hi,ybe,e0];simpa using e1.symm
    ·rw [yaQ (by simp;omega),yaQ (by simp;omega)]
   have I4:Inv X pins σ (upd H1 s'.heap.objs.size (.tup xs.reverse)) { s' with heap:=s'.heap.push { cls:=.type "tuple",data:=.seq acc } } :=
    I3.laid (t':=s'.toks) (fun c o x=>yae _ x) (yah _) (show za3 X.prog X.w _ _ _ (.tup xs.reverse) from ⟨by rw [ycn];exact hz,its.reverse,rv.reverse,by rw [<-hacc,Array.toArray_toList];exact IsTup.new _ _⟩)
   exact ⟨.ref s'.heap.objs.size,_,I4,rfl,q _ (I3.hok.fresh (yah _))⟩
end
end L2
namespace S2
open PySem PySem.Spec PyProof.Rows L2
section
variable{X:Cx}{cl:Cf}{E:St->XK}{e tg:Expr}{f:Fe}{pos pos':Pos}
noncomputable def zpd(f:Fe):Fi:=fun ρ S=>(zah [f] ρ S).bind fun ds S1=>match ds with | [.tup l]=>.ok l.reverse S1 | _=>.bad
def zrL{K:PySem.W.Frag}{w:Wd}{a:Addr}{xs:List V}{l:List D}(hS:∀w',Fut w w'->SqT K w'.H a xs)(r:Shds cl w xs l):ItOk cl w (Itv K a xs.length) l.reverse:=by
 have hl:=r.length;have rr:=r.rev;refine ⟨fun w1 F1 i hi=>⟨xs,xs.reverse[i]'(by rw [ycn] at hi ⊢;omega),hS w1 F1,rfl,yad (by rw [ycn] at hi ⊢;omega)⟩,fun w1 F1=>⟨xs,hS w1 F1,rfl,by rw [ycn];omega⟩,fun w1 F1 i d x H1 hd y=>?_⟩;obtain ⟨rfl,hy⟩:=y;obtain ⟨d',e1,e2⟩:=rr.get (hy xs (hS w1 F1));rw [hd] at e1;cases e1;exact ⟨w1,rfl,Grow.refl _,e2.up F1⟩
def zqi{p:Pos}(hK:X.K=cl.K)(hg:Gl X "reversed")(hm:X.mg "reversed" = none)(ha:PA X [e] (tAs cl E [f]))(hs:starEach [e] X.env=[(false,eval e X.env)]):PI X tg (.Call (.Name "reversed" p) [e] [] pos) (tI cl E (zpd f)):=by
 intro pins s σ H R' I q;obtain ⟨B,w,ρ,S,rfl,R,q⟩:=q;unfold zpd at q;refine zqY (tg:=tg) (p:=p) (pos:=pos) hg hm ha rfl hs pins s σ w.H R' I ⟨B,w,ρ,S,rfl,R,?_⟩
 cases hf:zah [f] ρ S with
 | bad=>rw [hf] at q;exact q.elim
 | exc c S1=>rwa [hf] at q
 | ok ds S1 =>
  rw [hf] at q;dsimp only [Out.bind] at q;intro vs w' R2 F2 sh;split at q
  ·rename_i l' S' hm';split at hm'
   ·rename_i l;cases hm'
    cases sh with
    | cons h1 h2 =>
     cases h2
     cases h1 with
     | tup ep k r=>exact ⟨_,_,rfl,SqT.of ep,q _ w' R2 F2 (zrL (fun w1 F1=>SqT.of (F1.keep _ _ ep k).1) r)⟩
   ·cases hm'
  ·rename_i hm';split at hm'<;>cases hm'
  ·exact q.elim
noncomputable def zdv:D->Option D | .tup (d::l)=>some (.tup (d::l).reverse) | _=>none
def zjr{p p2 pos2:Pos}(hc:X.calm=true)(hg:Gl X "tuple")(hm:X.mg "tuple" = none)(hg2:Gl X "reversed")(hm2:X.mg "reversed" = none)(he:PE X e (tE cl E f))(hs:starEach [e] X.env=[(false,eval e X.env)]) :
  PE X (.Call (.Name "tuple" p) [.Call (.Name "reversed" p2) [e] [] pos2] [] pos) (tE cl E (eUn zdv f)):=by
 refine PE.imp (zjP hc hg hm hg2 hm2 (zbO he zdI hs) hs) ?_;rintro σ H Q ⟨B,w,ρ,S,rfl,R,q⟩;refine ⟨B,w,ρ,S,rfl,R,?_⟩;unfold eUn at q
 cases hf:f ρ S with
 | bad=>rw [hf] at q;exact q.elim
 | exc c S1=>rw [hf] at q;simp only [zah,hf,Out.bind];exact q
 | ok d S1 =>
  rw [hf] at q;simp only [zah,hf,Out.bind];intro vs w1 R1 F1 sh;dsimp only [Out.bind] at q;unfold zdv at q;split at q
  ·rename_i d' S' hm';split at hm'
   ·cases hm'
    cases sh with
    | cons h1 hn =>
     cases hn
     cases h1 with
     | tup ep k r =>
      refine ⟨_,_,rfl,SqT.of ep,by rw [r.length];simp,fun p hp=>?_⟩;exact q _ (w1.add p _) (R1.grow (zan hp _)) (F1.trans (zan hp _).fut) (Shd.newT hp r.rev)
   ·cases hm'
  ·rename_i hm';split at hm'<;>cases hm'
  ·exact q.elim
end
end S2
namespace S2
open PySem PySem.Spec PyProof.Rows L2
section
variable{X:Cx}{cl:Cf}{E:St->XK}{e:Expr}{f:Fe}{pos:Pos}
end
end S2
namespace S2
open PySem PySem.Spec PyProof.Rows L2
noncomputable def ziw(f:Str)(o:Bool)(d:D):List (Str×Bool×D)->List (Str×Bool×D)
 | []=>[(f,o,d)]
 | (g,x)::r=>if g=f then (g,o,d)::r else (g,x)::ziw f o d r
noncomputable def Ob.put(ob:Ob)(f:Str)(o:Bool)(d:D):Ob:=⟨ob.cls,ziw f o d ob.fs⟩
section
variable{cl:Cf}{w:Wd}{n:Nat}
def zcG.len{fs:List (Str×V)}{gs:List (Str×Bool×D)}(h:zcG cl w n fs gs):fs.length=gs.length:=Paired.length h
def zcG.look{fs:List (Str×V)}{gs:List (Str×Bool×D)}(h:zcG cl w n fs gs){f:Str}{o:Bool}{d:D}(e:gs.lookup f=some (o,d)):∃v,fs.lookup f=some v/\zhv cl w (.fld n f) o v d:=by
 induction h with
 | nil=>cases e
 | @cons p q l1 l2 h t ih =>
  obtain ⟨h1,h2⟩:=h;obtain ⟨g,v⟩:=p;obtain ⟨g',o',d'⟩:=q;have h1':g=g':=h1;subst h1';rw [yaA] at e ⊢
  cases hb:f == g with
  | true =>
   rw [hb] at e;cases e;have:=eq_of_beq hb;subst this;exact ⟨v,rfl,h2⟩
  | false =>
   rw [hb] at e;exact ih e
def zcG.miss{fs:List (Str×V)}{gs:List (Str×Bool×D)}(h:zcG cl w n fs gs){f:Str}(e:gs.lookup f=none):fs.lookup f=none:=by
 induction h with
 | nil=>rfl
 | @cons p q l1 l2 h t ih =>
  obtain ⟨h1,h2⟩:=h;obtain ⟨g,v⟩:=p;obtain ⟨g',o',d'⟩:=q;have h1':g=g':=h1;subst h1';rw [yaA] at e ⊢
  cases hb:f == g with
  | true=>rw [hb] at e;cases e
  | false=>rw [hb] at e;exact ih e
def zcG.put{fs:List (Str×V)}{gs:List (Str×Bool×D)}{f:Str}{o:Bool}{d:D}{y:V}(h:zcG cl w n fs gs)(hy:zhv cl w (.fld n f) o y d):zcG cl w n (zcS f y fs) (ziw f o d gs):=by
 induction h with
 | nil=>exact .cons ⟨rfl,hy⟩ .nil
 | @cons p q l1 l2 h t ih =>
  obtain ⟨h1,h2⟩:=h;obtain ⟨g,v⟩:=p;obtain ⟨g',o',d'⟩:=q;have h1':g=g':=h1;subst h1';show zcG cl w n (if g=f then (g,y)::l1 else (g,v)::zcS f y l1) (if g=f then (g,o,d)::l2 else (g,o',d')::ziw f o d l2)
  by_cases hg:g=f
  ·subst hg;rw [if_pos rfl,if_pos rfl];exact .cons ⟨rfl,hy⟩ t
  ·rw [if_neg hg,if_neg hg];exact .cons ⟨rfl,h2⟩ ih
def zcG.keepBut{w':Wd}(f:Fut w w'){x:Str}(k:∀a o g,g≠x->w.H a=some o->w.ow a=some (.fld n g)->w'.H a=some o/\w'.ow a=some (.fld n g)){fs:List (Str×V)}{gs:List (Str×Bool×D)}(h:zcG cl w n fs gs)(hn:∀q∈gs,q.1=x->q.2.1=false):zcG cl w' n fs gs:=by
 induction h with
 | nil=>exact .nil
 | @cons p q l1 l2 h t ih =>
  obtain ⟨h1,h2⟩:=h;refine .cons ⟨h1,?_⟩ (ih fun q hq=>hn q (yaw _ hq))
  by_cases hx:q.1=x
  ·have ho:=hn q yaD hx;rw [ho] at h2 ⊢
   rcases h2 with ⟨_,h2⟩ | ⟨e,_⟩
   ·exact .inl ⟨rfl,Shd.up f h2⟩
   ·cases e
  ·exact h2.keep f fun a o ha hr=>k a o q.1 hx ha hr
def zcG.keepF{w':Wd}(f:Fut w w')(k:∀a o g,w.H a=some o->w.ow a=some (.fld n g)->w'.H a=some o/\w'.ow a=some (.fld n g)){fs:List (Str×V)}{gs:List (Str×Bool×D)}(h:zcG cl w n fs gs):zcG cl w' n fs gs:=by
 induction h with
 | nil=>exact .nil
 | @cons p q l1 l2 h t ih=>exact .cons ⟨h.1,h.2.keep f fun a o ha hr=>k a o q.1 ha hr⟩ ih
variable{B:Base}{σ:St}{ρ:Env}{S:Sto}
def World'.atObj(W:World' cl B w S){ob:Ob}(h:S[n]?=some ob){a:Addr}(e:w.mu[n]?=some a):zsp cl w n a ob:=by
 obtain ⟨a',e',x⟩:=W.obj n ob h;rw [e] at e';cases e';exact x
def zhh{S:Sto}{n m:Nat}{ob ob':Ob}(h:(S.set n ob)[m]?=some ob'):(m=n/\ob'=ob)\/(m≠n/\S[m]?=some ob'):=by
 by_cases e:n=m
 ·subst e
  have hlt:n<S.length:=by
   have:=(yam.mp h).1;rwa [yaI] at this
  rw [yaM hlt] at h;cases h;exact .inl ⟨rfl,rfl⟩
 ·rw [ya2 e] at h;exact .inr ⟨fun z=>e z.symm,h⟩
def Rel.setf{a dx:Addr}{ob:Ob}{fs:List (Str×V)}{f:Str}{y:V}{d:D}(R:Rel cl B σ w ρ S)(hn:S[n]?=some ob)(hmu:w.mu[n]?=some a)(how:w.ow a=some (.obj n))(hH:w.H a=some (.ins (cl ob.cls) dx fs))(hF:zcG cl w n fs ob.fs)(hy:Shd cl w y d) :
  Rel cl B σ (w.mut a (.ins (cl ob.cls) dx (zcS f y fs))) ρ (S.set n (ob.put f false d))/\Fut w (w.mut a (.ins (cl ob.cls) dx (zcS f y fs))):=by
 have ff:=zcj (w:=w) (p:=a) (o:=.ins (cl ob.cls) dx (zcS f y fs)) (by rw [how];exact yaC _)
 have kp:∀b u,w.H b=some u->w.ow b≠some (.obj n)->(w.mut a (.ins (cl ob.cls) dx (zcS f y fs))).H b=some u/\(w.mut a (.ins (cl ob.cls) dx (zcS f y fs))).ow b=w.ow b:=fun b u hb hne=>⟨by
  show upd w.H a _ b=_
  rw [zag (fun z=>hne (by rw [z];exact how))];exact hb,rfl⟩
 have hB:B.Fr a=none:=(R.wd.own a _ how).elim (fun z=>by cases z) fun z=>z
 refine ⟨⟨⟨fun b u h=>?_,R.wd.own,by rw [yaI];exact R.wd.len,fun m ob' h=>?_⟩,R.len,fun i o e h=>?_⟩,ff⟩
 ·refine ⟨?_,(R.wd.fr b u h).2⟩;show upd w.H a _ b=_;rw [zag (fun z=>by rw [z,hB] at h;cases h)];exact (R.wd.fr b u h).1
 ·rcases zhh h with ⟨rfl,rfl⟩ | ⟨hne,h⟩
  ·refine ⟨a,hmu,how,dx,_,zam,?_⟩;exact zcG.put (hF.keepF ff fun b u g hb hg=>⟨(kp b u hb (by rw [hg];exact fun z=>by cases z)).1,hg⟩) (.inl ⟨rfl,hy.up ff⟩)
  ·obtain ⟨b,e,x⟩:=R.wd.obj m ob' h;exact ⟨b,e,x.keep ff fun b u hb hm=>kp b u hb fun z=>by rw [z] at hm;exact hne hm.symm⟩
 ·obtain ⟨v,e1,x⟩:=R.slots i o e h;exact ⟨v,e1,x.keep ff fun b u hb hr=>⟨(kp b u hb (by rw [hr];exact fun z=>by cases z)).1,hr⟩⟩
noncomputable def Wd.addF(w:Wd)(p:Addr)(o:HO)(n:Nat)(f:Str):Wd:=⟨upd w.H p o,fun b=>if b=p then some (.fld n f) else w.ow b,w.mu⟩
def Rel.newf{a dx p:Addr}{ob:Ob}{fs:List (Str×V)}{f:Str}(R:Rel cl B σ w ρ S)(hn:S[n]?=some ob)(hmu:w.mu[n]?=some a)(how:w.ow a=some (.obj n))(hH:w.H a=some (.ins (cl ob.cls) dx fs))(hF:zcG cl w n fs ob.fs)(hp:w.H p=none) :
  Rel cl B σ ((w.addF p (.ext (DN cl.P cl.wo p [])) n f).mut a (.ins (cl ob.cls) dx (zcS f (.ref p) fs))) ρ (S.set n (ob.put f true (.dic [])))/\Fut w ((w.addF p (.ext (DN cl.P cl.wo p [])) n f).mut a (.ins (cl ob.cls) dx (zcS f (.ref p) fs))):=by
 have hap:a≠p:=zai hH hp
 have kp:∀b u,w.H b=some u->w.ow b≠some (.obj n)->((w.addF p (.ext (DN cl.P cl.wo p [])) n f).mut a (.ins (cl ob.cls) dx (zcS f (.ref p) fs))).H b=some u/\((w.addF p (.ext (DN cl.P cl.wo p [])) n f).mut a (.ins (cl ob.cls) dx (zcS f (.ref p) fs))).ow b=w.ow b:=fun b u hb hne=>by
  have hbp:b≠p:=zai hb hp;refine ⟨?_,?_⟩
  ·show upd (upd w.H p _) a _ b=_;rw [zag (fun z=>hne (by rw [z];exact how)),zag hbp];exact hb
  ·show (if b=p then _ else w.ow b)=_;rw [if_neg hbp]
 have ff:Fut w ((w.addF p (.ext (DN cl.P cl.wo p [])) n f).mut a (.ins (cl ob.cls) dx (zcS f (.ref p) fs))):=⟨fun b u hb hk=>by
  have:=kp b u hb (by rw [hk];exact fun z=>by cases z)
  exact ⟨this.1,this.2.trans hk⟩,fun _ _ h=>h⟩
 have hB:B.Fr a=none:=(R.wd.own a _ how).elim (fun z=>by cases z) fun z=>z
 have hBp:B.Fr p=none:=by
  cases z:B.Fr p with
  | none=>rfl
  | some u=>have:=(R.wd.fr p u z).1;rw [hp] at this;cases this
 have Hp:((w.addF p (.ext (DN cl.P cl.wo p [])) n f).mut a (.ins (cl ob.cls) dx (zcS f (.ref p) fs))).H p=some (.ext (DN cl.P cl.wo p [])):=by
  show upd (upd w.H p _) a _ p=_;rw [zag hap.symm,zam]
 have owp:((w.addF p (.ext (DN cl.P cl.wo p [])) n f).mut a (.ins (cl ob.cls) dx (zcS f (.ref p) fs))).ow p=some (.fld n f):=if_pos rfl
 have owa:((w.addF p (.ext (DN cl.P cl.wo p [])) n f).mut a (.ins (cl ob.cls) dx (zcS f (.ref p) fs))).ow a=some (.obj n):=by
  show (if a=p then _ else w.ow a)=_;rw [if_neg hap];exact how
 refine ⟨⟨⟨fun b u h=>?_,fun b r h=>?_,by rw [yaI];exact R.wd.len,fun m ob' h=>?_⟩,R.len,fun i o e h=>?_⟩,ff⟩
 ·have:=kp b u (R.wd.fr b u h).1 fun z=>by
   rcases R.wd.own b _ z with y | y
   ·cases y
   ·rw [h] at y;cases y
  exact ⟨this.1,this.2.trans (R.wd.fr b u h).2⟩
 ·have h':(if b=p then some (Root.fld n f) else w.ow b)=some r:=h;split at h'
  ·rename_i z;rw [z];exact .inr hBp
  ·exact R.wd.own b r h'
 ·rcases zhh h with ⟨rfl,rfl⟩ | ⟨hne,h⟩
  ·refine ⟨a,hmu,owa,dx,_,zam,?_⟩;refine zcG.put (hF.keepF ff fun b u g hb hg=>?_) (.inr ⟨rfl,p,[],[],[],rfl,owp,Hp,.nil,.nil,rfl⟩);have:=kp b u hb (by rw [hg];exact fun z=>by cases z);exact ⟨this.1,this.2.trans hg⟩
  ·obtain ⟨b,e,x⟩:=R.wd.obj m ob' h;exact ⟨b,e,x.keep ff fun b u hb hm=>kp b u hb fun z=>by rw [z] at hm;exact hne hm.symm⟩
 ·obtain ⟨v,e1,x⟩:=R.slots i o e h
  exact ⟨v,e1,x.keep ff fun b u hb hr=>by
   have:=kp b u hb (by rw [hr];exact fun z=>by cases z)
   exact ⟨this.1,this.2.trans hr⟩⟩
noncomputable def zj0(ob:Ob):Bool:=decide (ob.fs.map (·.1)).Nodup
def zcG.dic{w':Wd}{a:Addr}{f:Str}{d:D}(ff:Fut w w')(k:∀b o g,g≠f->w.H b=some o->w.ow b=some (.fld n g)->w'.H b=some o/\w'.ow b=some (.fld n g))(hy:zhv cl w' (.fld n f) true (.ref a) d):∀{fs:List (Str×V)} {gs:List (Str×Bool×D)},zcG cl w n fs gs->(gs.map (·.1)).Nodup->fs.lookup f=some (.ref a)->zcG cl w' n fs (ziw f true d gs):=by
 intro fs gs h
 induction h with
 | nil=>intro _ e;cases e
 | @cons p q l1 l2 h t ih =>
  intro nd e;obtain ⟨h1,h2⟩:=h;obtain ⟨g,v⟩:=p;obtain ⟨g',o',d'⟩:=q;have h1':g=g':=h1;subst h1';rw [yau,ybp] at nd;show zcG cl w' n ((g,v)::l1) (if g=f then (g,true,d)::l2 else (g,o',d')::ziw f true d l2);rw [yaA] at e
  by_cases hg:g=f
  ·subst hg;rw [if_pos rfl];simp only [ybD] at e;cases e;refine .cons ⟨rfl,hy⟩ ?_;have t':zcG cl w n l1 l2:=t;exact t'.keepBut ff k fun q hq hx=>absurd (yao.mpr ⟨q,hq,hx⟩) nd.1
  ·rw [if_neg hg];have hb:(f == g)=false:=yaZ.mpr fun z=>hg z.symm
   rw [hb] at e;exact .cons ⟨rfl,h2.keep ff fun b o hb hr=>k b o g hg hb hr⟩ (ih nd.2 e)
def Rel.setd{a dx c:Addr}{ob:Ob}{fs:List (Str×V)}{f:Str}{xs:List (NK×Addr×Value)}{m:List (NK×V)}{ds:List (D×D)}{k:NK}{kb:Addr}{u:Value}{v:V}{d:D}(R:Rel cl B σ w ρ S)(hn:S[n]?=some ob)(hmu:w.mu[n]?=some a)(how:w.ow a=some (.obj n))(hH:w.H a=some (.ins (cl ob.cls) dx fs))(hF:zcG cl w n fs ob.fs)
  (hl:fs.lookup f=some (.ref c)) (hc:w.ow c=some (.fld n f)) (hcH:w.H c=some (.ext (DN cl.P cl.wo c xs))) (he:zii w xs m) (hs:ShdN cl w m ds) (hk:zla w kb k) (rv:zaE v u) (hv:Shd cl w v d) (nd:zj0 ob=true) :
  Rel cl B σ (w.mut c (.ext (DN cl.P cl.wo c (xs++[(k,kb,u)])))) ρ (S.set n (ob.put f true (.dic (ds++[(nkD k,d)]))))/\Fut w (w.mut c (.ext (DN cl.P cl.wo c (xs++[(k,kb,u)])))):=by
 have ff:=zcj (w:=w) (p:=c) (o:=.ext (DN cl.P cl.wo c (xs++[(k,kb,u)]))) (by rw [hc];exact yaC _)
 have kp:∀b o,w.H b=some o->w.ow b≠some (.fld n f)->(w.mut c (.ext (DN cl.P cl.wo c (xs++[(k,kb,u)])))).H b=some o/\(w.mut c (.ext (DN cl.P cl.wo c (xs++[(k,kb,u)])))).ow b=w.ow b:=fun b o hb hne=>⟨by
  show upd w.H c _ b=_
  rw [zag (fun z=>hne (by rw [z];exact hc))];exact hb,rfl⟩
 have hB:B.Fr c=none:=(R.wd.own c _ hc).elim (fun z=>by cases z) fun z=>z
 refine ⟨⟨⟨fun b o h=>?_,R.wd.own,by rw [yaI];exact R.wd.len,fun m' ob' h=>?_⟩,R.len,fun i o e h=>?_⟩,ff⟩
 ·refine ⟨?_,(R.wd.fr b o h).2⟩;show upd w.H c _ b=_;rw [zag (fun z=>by rw [z,hB] at h;cases h)];exact (R.wd.fr b o h).1
 ·rcases zhh h with ⟨rfl,rfl⟩ | ⟨hne,h⟩
  ·refine ⟨a,hmu,how,dx,fs,?_,?_⟩
   ·exact (kp a _ hH (by rw [how];exact fun z=>by cases z)).1
   ·refine zcG.dic (a:=c) ff (fun b o g hg hb hr=>?_) (.inr ⟨rfl,c,_,m++[(k,v)],ds++[(nkD k,d)],rfl,hc,zam,?_,?_,rfl⟩) hF (yaj nd) hl
    ·exact ⟨(kp b o hb (by rw [hr];exact fun z=>hg (by cases z;rfl))).1,hr⟩
    ·exact (he.up ff).snoc ⟨rfl,hk.up ff,rv⟩
    ·exact (hs.up ff).snoc (hv.up ff)
  ·obtain ⟨b,e,x⟩:=R.wd.obj m' ob' h;exact ⟨b,e,x.keep ff fun b o hb hm=>kp b o hb fun z=>by rw [z] at hm;exact hne hm.symm⟩
 ·obtain ⟨v',e1,x⟩:=R.slots i o e h;exact ⟨v',e1,x.keep ff fun b o hb hr=>⟨(kp b o hb (by rw [hr];exact fun z=>by cases z)).1,hr⟩⟩
noncomputable def Wd.addO(w:Wd)(x dx C:Addr)(n:Nat):Wd:=⟨upd (upd w.H dx (.own x)) x (.ins C dx []),fun b=>if b=x then some (.obj n) else if b=dx then none else w.ow b,w.mu++[x]⟩
def Rel.made{x dx:Addr}{c:Str}(R:Rel cl B σ w ρ S)(hx:w.H x=none)(hdx:w.H dx=none)(ne:dx≠x):Rel cl B σ (w.addO x dx (cl c) S.length) ρ (S++[⟨c,[]⟩])/\Fut w (w.addO x dx (cl c) S.length):=by
 have kp:∀b o,w.H b=some o->(w.addO x dx (cl c) S.length).H b=some o/\(w.addO x dx (cl c) S.length).ow b=w.ow b:=fun b o hb=>by
  have n1:b≠x:=zai hb hx;have n2:b≠dx:=zai hb hdx;refine ⟨?_,?_⟩
  ·show upd (upd w.H dx _) x _ b=_;rw [zag n1,zag n2];exact hb
  ·show (if b=x then _ else if b=dx then _ else w.ow b)=_;rw [if_neg n1,if_neg n2]
 have ff:Fut w (w.addO x dx (cl c) S.length):=⟨fun b o hb hk=>⟨(kp b o hb).1,(kp b o hb).2.trans hk⟩,fun n a h=>by
  show (w.mu++[x])[n]?=some a
  rw [yaP (yam.mp h).1];exact h⟩
 have hBx:B.Fr x=none:=by
  cases z:B.Fr x with
  | none=>rfl
  | some u=>have:=(R.wd.fr x u z).1;rw [hx] at this;cases this
 refine ⟨⟨⟨fun b o h=>?_,fun b r h=>?_,by show (w.mu++[x]).length=_;rw [yav,yav,R.wd.len];rfl,fun m ob h=>?_⟩,R.len,fun i o e h=>?_⟩,ff⟩
 ·have:=kp b o (R.wd.fr b o h).1;exact ⟨this.1,this.2.trans (R.wd.fr b o h).2⟩
 ·have h':(if b=x then some (Root.obj S.length) else if b=dx then none else w.ow b)=some r:=h;split at h'
  ·rename_i z;rw [z];exact .inr hBx
  ·split at h'
   ·cases h'
   ·exact R.wd.own b r h'
 ·by_cases hm:m<S.length
  ·rw [yaP hm] at h;obtain ⟨b,e,y⟩:=R.wd.obj m ob h;exact ⟨b,ff.mu _ _ e,y.keep ff fun b o hb _=>kp b o hb⟩
  ·have hm':m=S.length:=by
    have:=(yam.mp h).1;rw [yav,List.length_singleton] at this;omega
   subst hm';rw [yaz (yah _),ydc] at h;cases h;refine ⟨x,?_,if_pos rfl,dx,[],zam,.nil⟩;show (w.mu++[x])[S.length]?=some x;rw [yaz (by rw [R.wd.len];exact yah _),R.wd.len,ydc];rfl
 ·obtain ⟨v,e1,y⟩:=R.slots i o e h;exact ⟨v,e1,y.keep ff fun b o hb hr=>⟨(kp b o hb).1,(kp b o hb).2.trans hr⟩⟩
end
end S2
namespace S2
open PySem PySem.Spec PyProof.Rows L2
noncomputable def zlL:D->Option (Option Int) | .non=>some none | .int i=>some (some i) | _=>none
noncomputable def zdd:List D->Option (List (Option Int))
 | []=>some []
 | d::r=>(zlL d).bind fun o=>(zdd r).map (o::·)
noncomputable def zk7:D->Option NK
 | .tup [.int i,.tup l]=>(zdd l).map fun os=>(i,os)
 | _=>none
noncomputable def zc0(k:NK):List (D×D)->Option D
 | []=>none
 | (q,d)::r=>if zk7 q=some k then some d else zc0 k r
def zjU(o:Option Int):zlL (oDn o)=some o:=by cases o<;>rfl
theorem zeY:∀l:List (Option Int),zdd (l.map oDn)=some l
 | []=>rfl
 | o::l=>by rw [yau];unfold zdd;rw [zjU,zeY l];rfl
def zlQ(k:NK):zk7 (nkD k)=some k:=by
 show (zdd (k.2.map oDn)).map (fun os=>(k.1,os))=some k;rw [zeY];rfl
section
variable{cl:Cf}{w:Wd}
theorem zjT:∀{xs:List V} {ds:List D} {os:Z4},Shds cl w xs ds->zdd ds=some os->xs=os.map oV
 | _,_,os,.nil,h=>by cases h;rfl
 | _,_,os,.cons (v:=v) (d:=d) (ds:=ds) r t,h=>by
  unfold zdd at h
  cases h1:zlL d with
  | none=>rw [h1] at h;cases h
  | some o =>
   rw [h1] at h
   cases h2:zdd ds with
   | none=>rw [h2] at h;cases h
   | some os' =>
    rw [h2] at h;cases h;rw [yau,<-zjT t h2]
    cases d<;>simp [zlL] at h1<;>subst h1<;>cases r<;>rfl
def znk{v:V}{d:D}{k:NK}(h:Shd cl w v d)(hk:zk7 d=some k):∃kb,v=.ref kb/\zla w kb k:=by
 unfold zk7 at hk;split at hk
 ·rename_i i l
  cases ho:zdd l with
  | none=>rw [ho] at hk;cases hk
  | some os =>
   rw [ho] at hk;cases hk
   cases h with
   | tup e o r =>
    cases r with
    | cons r1 t =>
     cases t with
     | cons r2 t =>
      cases t;cases r1
      cases r2 with
      | tup e2 o2 r2=>exact ⟨_,rfl,_,⟨e,o⟩,by rw [<-zjT r2 ho];exact e2,o2⟩
 ·cases hk
theorem zmr:∀{m:List (NK×V)} {ds:List (D×D)},ShdN cl w m ds->∀k:NK,(m.lookup k=none/\zc0 k ds=none)\/∃v d,m.lookup k=some v/\zc0 k ds=some d/\Shd cl w v d
 | _,_,.nil,k=>.inl ⟨rfl,rfl⟩
 | _,_,.cons (k:=k') (v:=v) (d:=d) r t,k=>by
  rw [yaA];unfold zc0;rw [zlQ]
  by_cases e:k'=k
  ·subst e;rw [if_pos rfl,ybD];exact .inr ⟨v,d,rfl,rfl,r⟩
  ·rw [if_neg (fun z=>e (by cases z;rfl)),yaZ.mpr (fun z=>e z.symm)];exact zmr t k
theorem znu:∀{m:List (NK×V)} {ds:List (D×D)},ShdN cl w m ds->m.length=ds.length
 | _,_,.nil=>rfl
 | _,_,.cons r t=>by rw [yap,yap,znu t]
end
noncomputable def zpF(cn f:Str)(d:D)(S:Sto):Option D:=match d with
 | .ref n=>(match S[n]? with
  | some ob=>if ob.cls=cn then (match ob.fs.lookup f with | some (false,d)=>some d | _=>none) else none
  | none=>none)
 | _=>none
noncomputable def zpg(cn f:Str)(fe:Fe):Fe:=fun ρ S=>(fe ρ S).bind fun d S1=>match zpF cn f d S1 with | some r=>.ok r S1 | none=>.bad
noncomputable def zk5(cl:Cf)(cn f:Str):Prop:=Cls cl.K (cl cn)/\zcN cl.K (cl cn) f
noncomputable def zh4(cn f:Str)(d:D)(S:Sto):Option (Nat×Ob×List (D×D)):=match d with
 | .ref n=>(match S[n]? with
  | some ob=>if ob.cls=cn then (match ob.fs.lookup f with | some (true,.dic ds)=>some (n,ob,ds) | _=>none) else none
  | none=>none)
 | _=>none
section
variable{cl:Cf}{cn:Str}{X:Cx}{E:St->XK}{e:Expr}{fe:Fe}{f:Str}{pos:Pos}{B:Base}{σ:St}{w:Wd}{ρ:Env}{S:Sto}
def zgK{v:V}{n:Nat}{ob:Ob}(R:Rel cl B σ w ρ S)(hv:Shd cl w v (.ref n))(hn:S[n]?=some ob):∃a dx fs,v=.ref a/\w.mu[n]?=some a/\w.ow a=some (.obj n)/\w.H a=some (.ins (cl ob.cls) dx fs)/\zcG cl w n fs ob.fs:=by
 cases hv with
 | ref e =>
  obtain ⟨h1,dx,fs,h2,h3⟩:=R.wd.atObj hn e;exact ⟨_,dx,fs,rfl,e,h1,h2,h3⟩
def zsh{v:V}{d r:D}(hk:zk5 cl cn f)(R:Rel cl B σ w ρ S)(hv:Shd cl w v d)(hd:zpF cn f d S=some r):∃a C dx fs y,v=.ref a/\w.H a=some (.ins C dx fs)/\Cls cl.K C/\zcN cl.K C f/\fs.lookup f=some y/\Shd cl w y r:=by
 unfold zpF at hd
 cases d with
 | ref n =>
  dsimp only at hd
  cases hS:S[n]? with
  | none=>rw [hS] at hd;cases hd
  | some ob =>
   rw [hS] at hd;dsimp only at hd;split at hd
   ·rename_i hfk;split at hd
    ·rename_i d hl;cases hd;obtain ⟨a,dx,fs,rfl,_,_,hH,hF⟩:=zgK R hv hS;obtain ⟨v,lv,fr⟩:=hF.look hl
     rcases fr with ⟨_,fr⟩ | ⟨z,_⟩
     ·exact ⟨a,_,dx,fs,v,rfl,hH,hfk ▸ hk.1,hfk ▸ hk.2,lv,fr⟩
     ·cases z
    ·cases hd
   ·cases hd
 | _=>cases hd
def zqw(hk:zk5 cl cn f)(kk:X.K=cl.K)(he:PE X e (tE cl E fe))(hb:attributeBase e f X.env (eval e X.env)=eval e X.env):PE X (.Attribute e f pos) (tE cl E (zpg cn f fe)):=by
 refine PE.imp (zgg he hb) ?_;rintro σ H Q ⟨B,w,ρ,S,rfl,R,q⟩;refine ⟨B,w,ρ,S,rfl,R,?_⟩;unfold zpg at q
 cases hf:fe ρ S with
 | bad=>rwa [hf] at q
 | exc c S1=>rwa [hf] at q
 | ok d S1 =>
  rw [hf] at q;intro v w1 R1 F1 h1;dsimp only [Out.bind] at q
  cases hd:zpF cn f d S1 with
  | none=>rw [hd] at q;exact q.elim
  | some r =>
   rw [hd] at q;obtain ⟨a,C,dx,fs,y,rfl,e1,e2,e3,e4,e5⟩:=zsh hk R1 h1 hd;rw [kk];exact ⟨a,C,dx,fs,y,rfl,e1,e2,e3,e4,q y w1 R1 F1 e5⟩
def zk0{v:V}{d:D}{n:Nat}{ob:Ob}{ds:List (D×D)}(hk:zk5 cl cn f)(R:Rel cl B σ w ρ S)(hv:Shd cl w v d)(hd:zh4 cn f d S=some (n,ob,ds)) :
  ∃a dx fs c xs m,v=.ref a/\S[n]?=some ob/\w.mu[n]?=some a/\w.ow a=some (.obj n)/\w.H a=some (.ins (cl ob.cls) dx fs)/\zcG cl w n fs ob.fs/\Cls cl.K (cl ob.cls)/\zcN cl.K (cl ob.cls) f/\fs.lookup f=some (.ref c)/\w.ow c=some (.fld n f)/\w.H c=some (.ext (DN cl.P cl.wo c xs))/\zii w xs m/\ShdN cl w m ds:=by
 unfold zh4 at hd
 cases d with
 | ref n' =>
  dsimp only at hd
  cases hS:S[n']? with
  | none=>rw [hS] at hd;cases hd
  | some ob' =>
   rw [hS] at hd;dsimp only at hd;split at hd
   ·rename_i hfk;split at hd
    ·rename_i ds' hl;cases hd;obtain ⟨a,dx,fs,rfl,hmu,how,hH,hF⟩:=zgK R hv hS;obtain ⟨v,lv,fr⟩:=hF.look hl
     rcases fr with ⟨z,_⟩ | ⟨_,c,xs,m,ds2,rfl,c1,c2,c3,c4,e⟩
     ·cases z
     ·cases e;exact ⟨a,dx,fs,c,xs,m,rfl,hS,hmu,how,hH,hF,hfk ▸ hk.1,hfk ▸ hk.2,lv,c1,c2,c3,c4⟩
    ·cases hd
   ·cases hd
 | _=>cases hd
end
end S2
namespace L2
open PySem PySem.Spec PyProof.Rows
section
variable{X:Cx}
end
end L2
namespace S2
open PySem PySem.Spec PyProof.Rows L2
noncomputable def zpe(cn f:Str)(fa fo:Fe):Fe:=fun ρ S=>(fa ρ S).bind fun dk S1=>(fo ρ S1).bind fun d S2=>match zk7 dk,zh4 cn f d S2 with
 | some k,some (_,_,ds)=>.ok (.bl (zc0 k ds).isNone) S2
 | _,_=>.bad
noncomputable def znl(ρ:Env)(i:Nat):Option NK:=match ρ[i]? with | some (some (false,dk))=>zk7 dk | _=>none
noncomputable def zkF(cn f:Str)(fo:Fe)(i:Nat):Fe:=fun ρ S=>(fo ρ S).bind fun d S1=>match znl ρ i,zh4 cn f d S1 with
 | some k,some (_,_,ds)=>(match zc0 k ds with | some r=>.ok r S1 | none=>.bad)
 | _,_=>.bad
noncomputable def zjx(cn f:Str)(fo:Fe)(i:Nat)(fe:Fe):Fs:=fun ρ S=>match fe ρ S with
 | .bad=>.bad
 | .exc c S1=>.ex c ρ S1
 | .ok r S1=>(match fo ρ S1 with
  | .bad=>.bad
  | .exc c S2=>.ex c ρ S2
  | .ok d S2=>(match znl ρ i,zh4 cn f d S2 with
   | some k,some (n,ob,ds)=>if (zc0 k ds).isNone&&decide (ds.length<=1000000)&&zj0 ob then .nx ρ (S2.set n (ob.put f true (.dic (ds++[(nkD k,r)])))) else .bad
   | _,_=>.bad))
noncomputable def zjy(cn f:Str)(fo fe:Fe):Fs:=fun ρ S=>match fe ρ S with
 | .bad=>.bad
 | .exc c S1=>.ex c ρ S1
 | .ok r S1=>(match fo ρ S1 with
  | .bad=>.bad
  | .exc c S2=>.ex c ρ S2
  | .ok (.ref n) S2=>(match S2[n]? with
   | some ob=>if decide (ob.cls=cn)&&decide (ob.fs.length<1000) then .nx ρ (S2.set n (ob.put f false r)) else .bad
   | none=>.bad)
  | .ok _ _=>.bad)
noncomputable def zog(cn f:Str)(i:Nat):Fs:=fun ρ S=>match ρ[i]? with
 | some (some (false,.ref n))=>(match S[n]? with
   | some ob=>if decide (ob.cls=cn)&&decide (ob.fs.length<1000) then .nx ρ (S.set n (ob.put f true (.dic []))) else .bad
   | none=>.bad)
 | _=>.bad
noncomputable def zdh(c m:Str)(d:D)(S:Sto):Bool:=match d with
 | .ref n=>(match S[n]? with | some ob=>decide (ob.cls=c)&&(ob.fs.lookup m).isNone | none=>false)
 | _=>false
noncomputable def zgy(c m:Str)(G:List D->Sto->Out D)(fo:Fe)(fs:List Fe):Fe:=fun ρ S=>(fo ρ S).bind fun d S1=>if zdh c m d S1 then (zah fs ρ S1).bind fun ds S2=>G (d::ds) S2 else .bad
noncomputable def eMk(c:Str)(dds:List D)(G:List D->Sto->Out D)(fs:List Fe):Fe:=fun ρ S=>(zah fs ρ S).bind fun ds S1=>(G (.ref S1.length::(ds++dds)) (S1++[⟨c,[]⟩])).bind fun r S2=>match r with | .non=>.ok (.ref S1.length) S2 | _=>.bad
structure Same'(cl:Cf)(X:Cx):Prop where
 kk:X.K=cl.K
 pp:X.prog=cl.P
 ww:X.w=cl.wo
section
variable{cl:Cf}{cn:Str}{X:Cx}{E:St->XK}{a o e:Expr}{fa fo fe:Fe}{f:Str}{pos apos:Pos}{own:Bool}
def zrq(sm:Same' cl X)(hk:zk5 cl cn f)(σ:St)(H:Hp)(Q:VK)(q:tE cl E (zpe cn f fa fo) σ H Q) :
  tOp (fun x y H Q=>∃kb a k xs m,x=.ref kb/\y=.ref a/\zhu H kb k/\H a=some (.ext (DN X.prog X.w a xs))/\zmN H xs m/\Q (.bl (m.lookup k).isNone) H) (tE cl E fa) (zvO X.K (tE cl E fo) f) σ H Q:=by
 obtain ⟨B,w,ρ,S,rfl,R,q⟩:=q;refine ⟨B,w,ρ,S,rfl,R,?_⟩;unfold zpe at q
 cases hf:fa ρ S with
 | bad=>rwa [hf] at q
 | exc c S1=>rwa [hf] at q
 | ok dk S1 =>
  rw [hf] at q;intro v w1 R1 F1 h1;refine ⟨B,w1,ρ,S1,rfl,R1,?_⟩;dsimp only [Out.bind] at q
  cases hh:fo ρ S1 with
  | bad=>rwa [hh] at q
  | exc c S2=>rw [hh] at q;exact fun w2 R2 F2=>q w2 R2 (F1.trans F2)
  | ok d S2 =>
   rw [hh] at q;intro y w2 R2 F2 h2;dsimp only at q
   cases hn:zk7 dk with
   | none=>rw [hn] at q;exact q.elim
   | some k =>
    cases hd:zh4 cn f d S2 with
    | none=>rw [hn,hd] at q;exact q.elim
    | some t =>
     obtain ⟨n,ob,ds⟩:=t;rw [hn,hd] at q;dsimp only at q;obtain ⟨a,dx,fs,c,xs,m,rfl,_,_,_,hH,_,c1,c2,lv,_,hc,he,hs⟩:=zk0 hk R2 h2 hd;obtain ⟨kb,rfl,ks⟩:=znk (h1.up F2) hn;rw [sm.kk];refine ⟨a,_,dx,fs,_,rfl,hH,c1,c2,lv,kb,c,k,xs,m,rfl,rfl,ks.at,by rw [sm.pp,sm.ww];exact hc,he.ents,?_⟩
     have:(m.lookup k).isNone=(zc0 k ds).isNone:=by
      rcases zmr hs k with ⟨e1,e2⟩ | ⟨_,_,e1,e2,_⟩<;>rw [e1,e2]<;>rfl
     rw [this];exact q _ w2 R2 (F1.trans F2) (.bl _)
def zqs(hu:X.A.units+16<cLine)(sm:Same' cl X)(hk:zk5 cl cn f)(ha:PE X a (tE cl E fa))(ho:PE X o (tE cl E fo))(hb:attributeBase o f X.env (eval o X.env)=eval o X.env)(hm:behindInMarks .NotIn (.Attribute o f apos)=false):PE X (.Compare a [.NotIn] [.Attribute o f apos] pos) (tE cl E (zpe cn f fa fo)) :=
 PE.imp (zg7 (zne hu) ha (zgg ho hb) hm) (zrq sm hk)
def zp5(hu:X.A.units+16<cLine)(sm:Same' cl X)(hk:zk5 cl cn f)(ha:PE X a (tE cl E fa))(ho:PE X o (tE cl E fo))(hb:attributeBase o f X.env (eval o X.env)=eval o X.env)(hm:behindInMarks .NotIn (.Attribute o f apos)=false):PT X (.Compare a [.NotIn] [.Attribute o f apos] pos) (tTr cl E (zpe cn f fa fo)) :=
 PT.imp (zg6 (zne hu) ha (zgg ho hb) hm) fun _ _ _ q=>zrq sm hk _ _ _ (zfX q)
def zkf{B:Base}{σ:St}{w:Wd}{ρ:Env}{S:Sto}{i:Nat}{k:NK}(R:Rel cl B σ w ρ S)(h:znl ρ i=some k):∃kb,σ[i]?=some (some (.ref kb))/\zla w kb k:=by
 unfold znl at h;split at h
 ·rename_i dk hi;obtain ⟨v,e,r⟩:=R.slots i false dk hi;obtain ⟨kb,rfl,ks⟩:=znk r h;exact ⟨kb,e,ks⟩
 ·cases h
def zof{i:Nat}{x:Str}{p:Pos}(hN:X.N[i]?=some x)(hv:Vis X.env.scope x)(hd:(x == ("__debug__":Str))=false)(hcd:(x == ("__classdict__":Str))=false)(hu:X.A.units+16<cLine)(sm:Same' cl X)(hk:zk5 cl cn f)(ho:PE X o (tE cl E fo))(hb:attributeBase o f X.env (eval o X.env)=eval o X.env)(hs:zfQ (.Name x p)):PE X (.Subscript (.Attribute o f apos) (.Name x p) pos) (tE cl E (zkF cn f fo i)):=by
 refine PE.imp (zq4 (zrK hu) (zgg ho hb) (zbl hN hv hd hcd) hs) ?_;rintro σ H Q ⟨B,w,ρ,S,rfl,R,q⟩;refine ⟨B,w,ρ,S,rfl,R,?_⟩;unfold zkF at q
 cases hf:fo ρ S with
 | bad=>rwa [hf] at q
 | exc c S1=>rwa [hf] at q
 | ok d S1 =>
  rw [hf] at q;intro v w1 R1 F1 h1;dsimp only [Out.bind] at q
  cases hn:znl ρ i with
  | none=>rw [hn] at q;exact q.elim
  | some k =>
   cases hd:zh4 cn f d S1 with
   | none=>rw [hn,hd] at q;exact q.elim
   | some t =>
    obtain ⟨n,ob,ds⟩:=t;rw [hn,hd] at q;dsimp only at q;obtain ⟨a,dx,fs,c,xs,m,rfl,_,_,_,hH,_,c1,c2,lv,_,hc,he,hs⟩:=zk0 hk R1 h1 hd;obtain ⟨kb,eσ,ks⟩:=zkf R1 hn
    cases hl:zc0 k ds with
    | none=>rw [hl] at q;exact q.elim
    | some r =>
     rw [hl] at q
     rcases zmr hs k with ⟨_,e2⟩ | ⟨y,r',e1,e2,sh⟩
     ·rw [hl] at e2;cases e2
     ·rw [hl] at e2;cases e2;rw [sm.kk];exact ⟨a,_,dx,fs,_,rfl,hH,c1,c2,lv,_,eσ,c,kb,k,xs,m,y,rfl,rfl,ks.at,by rw [sm.pp,sm.ww];exact hc,he.ents,e1,q _ w1 R1 F1 sh⟩
def znU{i:Nat}{x:Str}{p p3:Pos}(hN:X.N[i]?=some x)(hv:Vis X.env.scope x)(hd:(x == ("__debug__":Str))=false)(hcd:(x == ("__classdict__":Str))=false)(hu:X.A.units+16<cLine)(sm:Same' cl X)(hk:zk5 cl cn f)(ho:PE X o (tE cl E fo))(hb:attributeBase o f X.env (eval o X.env)=eval o X.env)(he:PE X e (tE cl E fe))
  (sw1:swapsWithSole [.Subscript (.Attribute o f apos) (.Name x p) p3] e pos.line X.env=pure false) (sw2:swappedStores [.Subscript (.Attribute o f apos) (.Name x p) p3] e X.env=pure none)
  (ha:∀v,assign (.Subscript (.Attribute o f apos) (.Name x p) p3) X.env v=(do
   let ov ← holding [v] (eval (.Attribute o f apos) X.env)
   let iv ← holding [v,ov] (eval (.Name x p) X.env)
   standAt p3
   holding [v,ov,iv] (setItem ov iv v)
   release [v,ov,iv] [])):PS X (.Assign [.Subscript (.Attribute o f apos) (.Name x p) p3] e pos) (tS cl E own (zjx cn f fo i fe)):=by
 refine PS.imp (zhI he (zna (zgg ho hb) (zbl hN hv hd hcd) (zn8 hu) ha) sw1 sw2 rfl) ?_;rintro De σ H ⟨B,w,ρ,S,rfl,R,q⟩;refine ⟨B,w,ρ,S,rfl,R,?_⟩;unfold zjx at q
 cases hf:fe ρ S with
 | bad=>rwa [hf] at q
 | exc c S1=>rw [hf] at q;exact fun w' R' F'=>q σ w' R' F'
 | ok r S1 =>
  rw [hf] at q;intro v w1 R1 F1 h1;dsimp only at q;refine ⟨B,w1,ρ,S1,rfl,R1,?_⟩
  cases hfo:fo ρ S1 with
  | bad=>rwa [hfo] at q
  | exc c S2=>rw [hfo] at q;exact fun w' R' F'=>q σ w' R' (F1.trans F')
  | ok d S2 =>
   rw [hfo] at q;intro y w2 R2 F2 h2;dsimp only at q
   cases hn:znl ρ i with
   | none=>rw [hn] at q;exact q.elim
   | some k =>
    cases hd:zh4 cn f d S2 with
    | none=>rw [hn,hd] at q;exact q.elim
    | some t =>
     obtain ⟨n,ob,ds⟩:=t;rw [hn,hd] at q;dsimp only at q;split at q
     ·rename_i hc0;rw [yab,yab] at hc0;obtain ⟨⟨z1,z2⟩,z3⟩:=hc0;obtain ⟨a,dx,fs,c,xs,m,rfl,hS,hmu,how,hH,hF,c1,c2,lv,oc,hc,he,hs⟩:=zk0 hk R2 h2 hd;obtain ⟨kb,eσ,ks⟩:=zkf R2 hn
      have hno:m.lookup k=none:=by
       rcases zmr hs k with ⟨e1,_⟩ | ⟨_,_,_,e2,_⟩
       ·exact e1
       ·rw [e2] at z1;cases z1
      rw [sm.kk];refine ⟨a,_,dx,fs,_,rfl,hH,c1,c2,lv,_,eσ,c,kb,k,xs,m,rfl,rfl,ks.at,by rw [sm.pp,sm.ww];exact hc,he.ents,hno,by rw [znu hs];exact yaj z2,fun u ru=>?_⟩;obtain ⟨R3,F3⟩:=R2.setd hS hmu how hH hF lv oc hc he hs ks ru (h1.up F2) z3;rw [sm.pp,sm.ww];exact q σ _ R3 (F1.trans (F2.trans F3))
     ·exact q.elim
def znW(sm:Same' cl X)(hk:zk5 cl cn f)(ho:PE X o (tE cl E fo))(he:PE X e (tE cl E fe))(hs:swapsWith e (some (.Attribute o f apos)) pos.line X.env=pure false):PS X (.Assign [.Attribute o f apos] e pos) (tS cl E own (zjy cn f fo fe)):=by
 refine PS.imp (zm6 ho he hs) ?_;rintro De σ H ⟨B,w,ρ,S,rfl,R,q⟩;refine ⟨B,w,ρ,S,rfl,R,?_⟩;unfold zjy at q
 cases hf:fe ρ S with
 | bad=>rwa [hf] at q
 | exc c S1=>rw [hf] at q;exact fun w' R' F'=>q σ w' R' F'
 | ok r S1 =>
  rw [hf] at q;intro v w1 R1 F1 h1;dsimp only at q;refine ⟨B,w1,ρ,S1,rfl,R1,?_⟩
  cases hfo:fo ρ S1 with
  | bad=>rwa [hfo] at q
  | exc c S2=>rw [hfo] at q;exact fun w' R' F'=>q σ w' R' (F1.trans F')
  | ok d S2 =>
   rw [hfo] at q;intro y w2 R2 F2 h2
   cases d with
   | ref n =>
    dsimp only at q
    cases hS:S2[n]? with
    | none=>rw [hS] at q;exact q.elim
    | some ob =>
     rw [hS] at q;dsimp only at q;split at q
     ·rename_i hc0;rw [yab] at hc0;obtain ⟨a,dx,fs,rfl,hmu,how,hH,hF⟩:=zgK R2 h2 hS;rw [sm.kk];refine ⟨a,_,dx,fs,rfl,hH,yaj hc0.1 ▸ hk.1,yaj hc0.1 ▸ hk.2,by rw [hF.len];exact yaj hc0.2,?_⟩;obtain ⟨R3,F3⟩:=R2.setf (f:=f) hS hmu how hH hF (h1.up F2);exact q σ _ R3 (F1.trans (F2.trans F3))
     ·exact q.elim
   | _=>exact q.elim
def znX{i:Nat}{x:Str}{p p2:Pos}(hN:X.N[i]?=some x)(hv:Vis X.env.scope x)(hd:(x == ("__debug__":Str))=false)(hcd:(x == ("__classdict__":Str))=false)(sm:Same' cl X)(hk:zk5 cl cn f)(hs:swapsWith (.Dict [] [] p) (some (.Attribute (.Name x p2) f apos)) pos.line X.env=pure false):PS X (.Assign [.Attribute (.Name x p2) f apos] (.Dict [] [] p) pos) (tS cl E own (zog cn f i)):=by
 refine PS.imp (zm6 (zbl hN hv hd hcd) zoy hs) ?_;rintro De σ H ⟨B,w,ρ,S,rfl,R,q⟩;intro pd hpd;unfold zog at q;split at q
 ·rename_i n hi;obtain ⟨v,ev,rv⟩:=R.slots i false _ hi
  cases hS:S[n]? with
  | none=>rw [hS] at q;exact q.elim
  | some ob =>
   rw [hS] at q;dsimp only at q;split at q
   ·rename_i hc0;rw [yab] at hc0;obtain ⟨a,dx,fs,rfl,hmu,how,hH,hF⟩:=zgK R rv hS;rw [sm.kk];refine ⟨_,ev,a,_,dx,fs,rfl,?_,yaj hc0.1 ▸ hk.1,yaj hc0.1 ▸ hk.2,by rw [hF.len];exact yaj hc0.2,?_⟩
    ·rw [zag (zai hH hpd)];exact hH
    ·obtain ⟨R3,F3⟩:=R.newf (f:=f) hS hmu how hH hF hpd;rw [sm.pp,sm.ww];exact q σ _ R3 F3
   ·exact q.elim
 ·exact q.elim
end
noncomputable def zfY(C:Addr)(m:Str)(sp:Sp)(dvs:List V)(E:St->XK)(ta:TE)(t:TA):TE:=fun σ H Q=>ta σ H fun x H1=>∃a dx fs,x=.ref a/\H1 a=some (.ins C dx fs)/\fs.lookup m=none ∧
 t σ H1 fun vs H2=>sp (x::(vs++dvs)) H2 Q (E σ)
noncomputable def zmQ(C:Addr)(sp:Sp)(dvs:List V)(E:St->XK)(t:TA):TE:=fun σ H Q=>t σ H fun vs H1=>∀x dx,H1 x=none->H1 dx=none->dx≠x →
 sp (.ref x::(vs++dvs)) (upd (upd H1 dx (.own x)) x (.ins C dx [])) (fun v H2=>v=.non/\Q (.ref x) H2) (E σ)
section
variable{X:Cx}{CX:CXT}{k:Nat}{f C:Addr}{fd:FuncData}{ps:List Str}{sp:Sp}{dvs:List V}{ds:List Value}{E:St->XK}{x m:Str}{p pos apos:Pos}{e o:Expr}{es:List Expr}{ta:TE}{t:TA}
def zlA{pl:Sem Bool}(he:PE X o ta)(c:Cls X.K C)(hm:Meth X.K C m f)(F:FnOk X.prog X.w X.K X.mg X.base CX k f fd ps sp)(hr:Room k X.A)(hb:zcH X.K fd ps ds)(hd:Vals dvs ds)(hx:zcv CX X E)(ha:PA X (e::es) t)
  (hst:starEach (e::es) X.env=(false,eval e X.env)::starEach es X.env) (hpl:(backTo pos (starEach es X.env)).any (·.1)=false)
  (ht:eval (.Call (.Attribute o m apos) (e::es) [] pos) X.env=(do
   let ov ← eval o X.env
   standAt apos.atName
   let (f,first) ← holding [ov] (getMethod ov m pl)
   callWith pos f first (backTo pos (starEach (e::es) X.env)) (backToKw pos (keywordEach [] X.env)))) :
  PE X (.Call (.Attribute o m apos) (e::es) [] pos) (zfY C m sp dvs E ta t):=by
 intro pins s σ H Q I h;refine PySem.W.methodCall_KW (pl:=pl) (thn (he pins s σ H _ I h) fun u s1 ⟨x,H1,I1,rx,a,dx,fs,ex,ea,l,q⟩=>?_) ht;subst ex;obtain rfl:u=Value.ref a:=rx;refine ze0 I1 ea c hm l ?_;refine yda (first:=[.ref a]) (h₀:=X.base) I.ok.mod.kin hm.kp (thn (ha pos pins s1 σ H1 _ I1 q) fun us s2 ⟨vs,H2,I2,r,q2⟩=>⟨I2.kIn,?_⟩) hst hpl;exact zfh (us:=.ref a::us) (vs:=.ref a::vs) F hr hb hd hx I2 (.cons rfl r) q2
def zjQ{pl:Sem Bool}(he:PE X o ta)(c:Cls X.K C)(hm:Meth X.K C m f)(F:FnOk X.prog X.w X.K X.mg X.base CX k f fd ps sp)(hr:Room k X.A)(hb:zcH X.K fd ps ds)(hd:Vals dvs ds)(hx:zcv CX X E)
  (ht:eval (.Call (.Attribute o m apos) [] [] pos) X.env=(do
   let ov ← eval o X.env
   standAt apos.atName
   let (f,first) ← holding [ov] (getMethod ov m pl)
   callWith pos f first (backTo pos (starEach [] X.env)) (backToKw pos (keywordEach [] X.env)))) :
  PE X (.Call (.Attribute o m apos) [] [] pos) (zfY C m sp dvs E ta zsv):=by
 intro pins s σ H Q I h;refine PySem.W.methodCall_KW (pl:=pl) (thn (he pins s σ H _ I h) fun u s1 ⟨x,H1,I1,rx,a,dx,fs,ex,ea,l,q⟩=>?_) ht;subst ex;obtain rfl:u=Value.ref a:=rx;refine ze0 I1 ea c hm l ?_;exact PySem.W.callWith_K0 (first:=[.ref a]) I1.kIn hm.kp (zfh (us:=[.ref a]) (vs:=[.ref a]) F hr hb hd hx I1 (.cons rfl .nil) q)
def zjA{pins:Z3}{σ:St}{H:Hp}{s:Shared}{Q:VK}{us:List Value}{vs:List V}(M:Mk X.K C f)(F:FnOk X.prog X.w X.K X.mg X.base CX k f fd ps sp)(hr:Room (k+1) X.A)(hb:zcH X.K fd ps ds)(hd:Vals dvs ds)
  (hx:zcv CX X E) (I:Inv X pins σ H s) (r:Vals vs us)
  (h:∀x dx,H x=none->H dx=none->dx≠x->sp (.ref x::(vs++dvs)) (upd (upd H dx (.own x)) x (.ins C dx [])) (fun v H2=>v=.non/\Q (.ref x) H2) (E σ)) :
  wpAny (model X.prog X.w) X.A (call (.ref C) us) (EP X pins σ Q) X.xe s:=by
 have hq:=h (s.heap.objs.size+1) s.heap.objs.size (I.hok.fresh (ybu _)) (I.hok.fresh (yah _)) (yar (ybU _));have I2:=Inv.made (C:=C) I;have r2:Vals (V.ref (s.heap.objs.size+1)::(vs++dvs)) (Value.ref (s.heap.objs.size+1)::(us++ds)):=.cons rfl (r.append hd)
 have hl:(Value.ref (s.heap.objs.size+1)::us++ds).length=ps.length:=by
  have e:=r2.length;rw [F.len _ _ _ _ hq] at e;exact e.symm
 refine wpAny_call (zlZ (f:=f) I.kIn M.makes M.init (ycW.mp M.fn) (ycN (F.run _ X.stack _ _ ⟨Value.ref (s.heap.objs.size+1)::us,[]⟩ (Value.ref (s.heap.objs.size+1)::(us++ds)) _ _ (E σ) (hr.make C us [])
  (I2.env0.make C us []) (hb _ (Value.ref (s.heap.objs.size+1)::us) I2.kIn hl) r2 hq) fun r s' hq'=>?_))
 cases r with
 | error e=>exact hx pins σ _ _ e s' I2 hq'
 | ok fl =>
  cases fl with
  | ret u =>
   obtain ⟨v,H',I3,rv,ev,q3⟩:=I2.after hq';subst ev;exact ⟨rv,⟨V.ref (s.heap.objs.size+1),H',I3,rfl,q3⟩⟩
  | next=>exact False.elim hq'
  | brk=>exact False.elim hq'
  | cont=>exact False.elim hq'
def zhL(M:Mk X.K C f)(F:FnOk X.prog X.w X.K X.mg X.base CX k f fd ps sp)(hr:Room (k+1) X.A)(hg:Gl X x)(hm:X.mg x=some (.ref C))(hb:zcH X.K fd ps ds)(hd:Vals dvs ds)(hx:zcv CX X E)
  (ha:PA X (e::es) t) (hdb:(x == ("__debug__":Str))=false) (he:starEach (e::es) X.env=(false,eval e X.env)::starEach es X.env) (hpl:(backTo pos (starEach es X.env)).any (·.1)=false) :
  PE X (.Call (.Name x p) (e::es) [] pos) (zmQ C sp dvs E t):=by
 intro pins s σ H Q I h;refine ybG (zfw I hg hm ?_ hdb);refine yda (h₀:=X.base) I.ok.mod.kin M.kp (thn (ha pos pins s σ H _ I h) fun us s1 ⟨vs,H1,I1,r,q⟩=>⟨I1.kIn,?_⟩) he hpl;exact zjA M F hr hb hd hx I1 r q
end
section
variable{cl:Cf}{E:St->XK}{fs:List Fe}{fo:Fe}{G:List D->Sto->Out D}{σ:St}{H:Hp}{Q:VK}{n:Nat}{c m:Str}{ρ:Env}
theorem zdl:∀{fs:List Fe} {S S1:Sto} {ds:List D},zah fs ρ S=.ok ds S1->ds.length=fs.length
 | [],S,S1,ds,h=>by cases h;rfl
 | f::fs,S,S1,ds,h=>by
  unfold zah at h
  cases h1:f ρ S with
  | bad=>rw [h1] at h;cases h
  | exc c S2=>rw [h1] at h;cases h
  | ok d S2 =>
   rw [h1] at h;dsimp only [Out.bind] at h
   cases h2:zah fs ρ S2 with
   | bad=>rw [h2] at h;cases h
   | exc c S3=>rw [h2] at h;cases h
   | ok es S3=>rw [h2] at h;cases h;rw [yap,yap,zdl h2]
def zj6{B:Base}{w:Wd}{S:Sto}{v:V}{d:D}(R:Rel cl B σ w ρ S)(hv:Shd cl w v d)(h:zdh c m d S=true):∃a dx fs,v=.ref a/\w.H a=some (.ins (cl c) dx fs)/\fs.lookup m=none:=by
 unfold zdh at h
 cases d with
 | ref n =>
  dsimp only at h
  cases hS:S[n]? with
  | none=>rw [hS] at h;cases h
  | some ob =>
   rw [hS] at h;dsimp only at h;rw [yab] at h;obtain ⟨a,dx,fs,rfl,_,_,hH,hF⟩:=zgK R hv hS;have e:=yaj h.1;subst e;exact ⟨a,dx,fs,rfl,hH,hF.miss (by simpa using h.2)⟩
 | _=>cases h
def zrw(q:tE cl E (zgy c m G fo fs) σ H Q)(hn:fs.length+1=n):zfY (cl c) m (zin cl n false G) [] E (tE cl E fo) (tAs cl E fs) σ H Q:=by
 obtain ⟨B,w,ρ,S,rfl,R,q⟩:=q;refine ⟨B,w,ρ,S,rfl,R,?_⟩;unfold zgy at q
 cases hfo:fo ρ S with
 | bad=>rwa [hfo] at q
 | exc c S1=>rwa [hfo] at q
 | ok d S0 =>
 rw [hfo] at q;intro v w0 R0 F0 h0;dsimp only [Out.bind] at q
 cases hok:zdh c m d S0 with
 | false=>rw [hok] at q;exact q.elim
 | true =>
 rw [hok,if_pos rfl] at q;obtain ⟨a,dx,fs',rfl,hH,hm⟩:=zj6 R0 h0 hok;refine ⟨a,dx,fs',rfl,hH,hm,B,w0,ρ,S0,rfl,R0,?_⟩
 cases hf:zah fs ρ S0 with
 | bad=>rwa [hf] at q
 | exc c S1=>rw [hf] at q;exact fun w1 R1 F1=>q w1 R1 (F0.trans F1)
 | ok ds S1 =>
  rw [hf] at q;intro vs w1 R1 F1 h1;dsimp only at q;refine ⟨?_,w1.base,w1.inn,d::ds,S1,rfl,R1.wd.enter,?_,?_⟩
  ·rw [yaG,yap,h1.length,zdl hf];exact hn
  ·rw [yaG];exact .cons ((h0.up F1).up (zbP w1)) (h1.up (zbP w1))
  cases hg:G (d::ds) S1 with
  | bad=>rwa [hg] at q
  | exc c S2 =>
   rw [hg] at q;intro w2 W2 F2;obtain ⟨R3,F3⟩:=R1.leave W2 F2;exact q (w1.back w2) R3 (F0.trans (F1.trans F3))
  | ok r S2 =>
   rw [hg] at q;intro v w2 W2 F2 r2;obtain ⟨R3,F3⟩:=R1.leave W2 F2;exact q v (w1.back w2) R3 (F0.trans (F1.trans F3)) (Shd.up (zcC W2) r2)
def zrv(q:tN cl E (zgy c m G fo fs) σ H Q)(hn:fs.length+1=n):zfY (cl c) m (zin cl n true G) [] E (tE cl E fo) (tAs cl E fs) σ H Q:=by
 obtain ⟨B,w,ρ,S,rfl,R,q⟩:=q;refine ⟨B,w,ρ,S,rfl,R,?_⟩;unfold zgy at q
 cases hfo:fo ρ S with
 | bad=>rwa [hfo] at q
 | exc c S1=>rwa [hfo] at q
 | ok d S0 =>
 rw [hfo] at q;intro v w0 R0 F0 h0;dsimp only [Out.bind] at q
 cases hok:zdh c m d S0 with
 | false=>rw [hok] at q;exact q.elim
 | true =>
 rw [hok,if_pos rfl] at q;obtain ⟨a,dx,fs',rfl,hH,hm⟩:=zj6 R0 h0 hok;refine ⟨a,dx,fs',rfl,hH,hm,B,w0,ρ,S0,rfl,R0,?_⟩
 cases hf:zah fs ρ S0 with
 | bad=>rwa [hf] at q
 | exc c S1=>rw [hf] at q;exact fun w1 R1 F1=>q w1 R1 (F0.trans F1)
 | ok ds S1 =>
  rw [hf] at q;intro vs w1 R1 F1 h1;dsimp only at q;refine ⟨?_,w1.base,w1.inn,d::ds,S1,rfl,R1.wd.enter,?_,?_⟩
  ·rw [yaG,yap,h1.length,zdl hf];exact hn
  ·rw [yaG];exact .cons ((h0.up F1).up (zbP w1)) (h1.up (zbP w1))
  cases hg:G (d::ds) S1 with
  | bad=>rwa [hg] at q
  | exc c S2 =>
   rw [hg] at q;intro w2 W2 F2;obtain ⟨R3,F3⟩:=R1.leave W2 F2;exact q (w1.back w2) R3 (F0.trans (F1.trans F3))
  | ok r S2 =>
   rw [hg] at q;intro v w2 W2 F2 r2;obtain ⟨R3,F3⟩:=R1.leave W2 F2;obtain ⟨a,o,i,rfl,k1,k2,t⟩:=r2;have hfr:w1.base.Fr a=none:=(W2.own a _ k1).elim (fun z=>by cases z) fun z=>z
   have k3:(w1.back w2).ow a=some .far:=by
    show (if (w1.base.Fr a).isSome=true then w1.ow a else Root.out (w2.ow a))=_;rw [hfr,k1];rfl
   have hb:B.Fr a=none:=by
    cases z:B.Fr a with
    | none=>rfl
    | some u=>rw [zc1 R1.wd z] at hfr;cases hfr
   have hd:=zhi (w:=w1.back w2) (a:=a) (by rw [k3];exact yaC _);have:=q a o ((w1.back w2).del a) (R3.del k3 hb) (F0.trans (F1.trans (F3.trans hd))) (if_pos rfl) ((t.up (zcC W2)).up hd);rwa [zi5 (w:=w1.back w2) k2] at this
def zv2{dds:List D}{dvs:List V}(hdv:∀w,Shds cl w dvs dds)(q:tE cl E (eMk c dds G fs) σ H Q)(hn:fs.length+dds.length+1=n):zmQ (cl c) (zin cl n false G) dvs E (tAs cl E fs) σ H Q:=by
 obtain ⟨B,w,ρ,S,rfl,R,q⟩:=q;refine ⟨B,w,ρ,S,rfl,R,?_⟩;unfold eMk at q
 cases hf:zah fs ρ S with
 | bad=>rwa [hf] at q
 | exc c S1=>rwa [hf] at q
 | ok ds S1 =>
  rw [hf] at q;intro vs w1 R1 F1 h1;dsimp only [Out.bind] at q;intro x dx hx hdx ne;obtain ⟨R2,F2⟩:=R1.made (c:=c) hx hdx ne
  have hmu:(w1.addO x dx (cl c) S1.length).mu[S1.length]?=some x:=by
   show (w1.mu++[x])[S1.length]?=some x;rw [yaz (by rw [R1.wd.len];exact yah _),R1.wd.len,ydc];rfl
  refine ⟨?_,(w1.addO x dx (cl c) S1.length).base,(w1.addO x dx (cl c) S1.length).inn,.ref S1.length::(ds++dds),S1++[⟨c,[]⟩],rfl,R2.wd.enter,?_,?_⟩
  ·rw [yap,yav,h1.length,zdl hf,(hdv w1).length];exact hn
  ·exact .cons (.ref hmu) (((h1.up F2).up (zbP _)).append (hdv _))
  cases hg:G (.ref S1.length::(ds++dds)) (S1++[⟨c,[]⟩]) with
  | bad=>rwa [hg] at q
  | exc c S2 =>
   rw [hg] at q;intro w2 W2 F3;obtain ⟨R3,F4⟩:=R2.leave W2 F3;exact q ((w1.addO x dx _ S1.length).back w2) R3 (F1.trans (F2.trans F4))
  | ok r S2 =>
   rw [hg] at q;intro v w2 W2 F3 r2
   cases r with
   | non =>
    obtain ⟨R3,F4⟩:=R2.leave W2 F3;refine ⟨by cases r2;rfl,q (.ref x) ((w1.addO x dx _ S1.length).back w2) R3 (F1.trans (F2.trans F4)) (.ref (F4.mu _ _ hmu))⟩
   | _=>exact q.elim
end
end S2
namespace L2
open PySem PySem.Spec PyProof.Rows
section
variable{X:Cx}
noncomputable def zuK(ns:List Int):Nat:=argBest (fun i j=>decide (ns.getD i 0<ns.getD j 0)) (ns.length-1)
noncomputable def zxV(ns:List Int):Int:=ns.getD (zuK ns) 0
end
end L2
namespace S2
open PySem PySem.Spec PyProof.Rows L2
noncomputable def zsQ:Operator->Option (Int->Int->Int) | .Add=>some (·+·) | .Sub=>some (· - ·) | _=>none
noncomputable def zqF(i:Nat)(g:Int->Int->Int)(fe:Fe):Fs:=fun ρ S=>match ρ[i]? with
 | some (some (false,.int a))=>(match fe ρ S with
  | .ok (.int b) S1=>.nx (ρ.set i (some (false,.int (g a b)))) S1
  | .ok _ _=>.bad
  | .exc c S1=>.ex c ρ S1
  | .bad=>.bad)
 | _=>.bad
section
variable{cl:Cf}{X:Cx}{E:St->XK}{e:Expr}{fe f:Fe}{pos:Pos}{own:Bool}
def zqc{i:Nat}{x:Str}{op:Operator}{g:Int->Int->Int}{p:Pos}(hop:zsQ op=some g)(hN:X.N.Nodup)(hi:X.N[i]?=some x)(hx:Loc X.env.scope x)(he:PE X e (tE cl E fe))(hf:X.fn x=true\/X.env.scope.names.lookup x=some .local):PS X (.AugAssign (.Name x p) op e pos) (tS cl E own (zqF i g fe)):=by
 have main:∀ti:TIp,PIp X op ti->(∀a b H Q,Q (.int (g a b)) H->ti (.int a) (.int b) H Q)->PS X (.AugAssign (.Name x p) op e pos) (tS cl E own (zqF i g fe)):=by
  intro ti ho hti;refine PS.imp (zqV hN hi hx he ho hf) ?_;rintro De σ H ⟨B,w,ρ,S,rfl,R,q⟩;unfold zqF at q;split at q
  ·rename_i a ha;obtain ⟨v,ev,rv⟩:=R.slots i false _ ha;have rv':Shd cl w v (.int a):=rv;cases rv';refine ⟨_,ev,B,w,ρ,S,rfl,R,?_⟩
   cases hfe:fe ρ S with
   | bad=>rwa [hfe] at q
   | exc c S1=>rw [hfe] at q;exact fun w' R' F'=>q σ w' R' F'
   | ok d S1 =>
    rw [hfe] at q;intro y w1 R1 F1 h1
    cases d with
    | int b =>
     cases h1;exact hti a b _ _ (q _ w1 (R1.put (.int _)) F1)
    | _=>exact q.elim
  ·exact q.elim
 cases op<;>simp [zsQ] at hop<;>subst hop
 ·exact main zvT zrS fun a b H Q q=>⟨a,b,rfl,rfl,q⟩
 ·exact main zvS zrR fun a b H Q q=>⟨a,b,rfl,rfl,q⟩
def zlM:OpR X (compareOp .Is) (fun x y H Q=>∃i j,x=.bl i/\y=.bl j/\Q (.bl (decide (i=j))) H):=by
 intro pins s σ H x y v u Q I rx ry h;obtain ⟨i,j,rfl,rfl,q⟩:=h;cases rx;cases ry;refine wpAny_is_plain (by rfl) ?_;refine ⟨.bl (decide (i=j)),H,I,?_,q⟩;show _=Value.bool _;congr 1
 cases i<;>cases j<;>rfl
noncomputable def zsJ:D->D->Option D | .bl a,.bl b=>some (.bl (decide (a=b))) | _,_=>none
def zrl:OpD X cl (compareOp .Is) zsJ:=by
 intro pins s σ H x y v u Q I rx ry h;obtain ⟨w,d,e,r,rfl,hx,hy,hg,q⟩:=h;unfold zsJ at hg;split at hg
 ·cases hg;obtain rfl:=hx.blI;obtain rfl:=hy.blI;exact zlM pins s σ w.H _ _ v u Q I rx ry ⟨_,_,rfl,rfl,q _ w (Grow.refl _) (.bl _)⟩
 ·cases hg
noncomputable def zt0:List D->Option D
 | [.lst l]=>(zbZ l).bind fun ns=>if ns.isEmpty then none else some (.int (zxV ns))
 | ds=>zxW ds
end
end S2
namespace S2
open PySem PySem.Spec PyProof.Rows L2
noncomputable def zk3:D->Option Key | .int i=>some (.inl i) | .str x=>some (.inr x) | _=>none
noncomputable def zct:List D->Option (List Key)
 | []=>some []
 | d::l=>(zk3 d).bind fun k=>(zct l).bind fun ks=>some (k::ks)
noncomputable def zgL:D->Option (List Key) | .tup l=>zct l | _=>none
section
variable{cl:Cf}{w:Wd}
def zn6{k:Key}{d:D}{v:V}(e:zk3 d=some k)(h:Shd cl w v d):v=kV k:=by
 cases h<;>first | (cases e;done) | (cases e;rfl)
theorem zf6:∀{l:List D} {ks:List Key} {xs:List V},zct l=some ks->Shds cl w xs l->xs=ks.map kV
 | [],ks,xs,e,h=>by cases e;cases h;rfl
 | d::l,ks,xs,e,h=>by
  cases h with
  | cons r t =>
   cases e1:zk3 d with
   | none=>rw [show zct (d::l)=(zk3 d).bind _ from rfl,e1] at e;cases e
   | some k =>
    rw [show zct (d::l)=(zk3 d).bind fun k=>(zct l).bind fun ks=>some (k::ks) from rfl,e1] at e
    cases e2:zct l with
    | none =>
     rw [show ((some k).bind fun k=>(zct l).bind fun ks=>some (k::ks))=(zct l).bind fun ks=>some (k::ks) from rfl,e2] at e;cases e
    | some ks' =>
     rw [show ((some k).bind fun k=>(zct l).bind fun ks=>some (k::ks))=(zct l).bind fun ks=>some (k::ks) from rfl,e2] at e;cases e;rw [zn6 e1 r,zf6 e2 t];rfl
def zff{k:List Key}{d:D}{v:V}(e:zgL d=some k)(h:Shd cl w v d):∃b,v=.ref b/\w.H b=some (.tup (k.map kV))/\w.ow b=none:=by
 cases h with
 | tup e1 e2 r=>exact ⟨_,rfl,by rw [e1,zf6 e r],e2⟩
 | non=>cases e
 | bl=>cases e
 | int=>cases e
 | str=>cases e
 | lst=>cases e
 | dicK=>cases e
 | dicT=>cases e
 | dicN=>cases e
 | ref=>cases e
 | scr=>cases e
 | scrK=>cases e
 | exc=>cases e
end
noncomputable def zuz:Fe:=fun _ S=>.ok (zw2 []) S
section
variable{X:Cx}{cl:Cf}{E:St->XK}{own:Bool}{a b e:Expr}{f g fe fk:Fe}{pos pos':Pos}{i:Nat}{x:Str}{ap cp:Pos}
end
end S2
namespace ST
open PySem PySem.Spec PyProof.Rows
noncomputable def zeN:List Int:=[0,1,2,3,4,5,6,7]
noncomputable def zae(ks:List Int):List Int:=zeN.filter fun x=>decide (x∈ks)
def zj7{k:Int}:k∈zeN↔0<=k/\k<8:=by
 unfold zeN;simp only [yat,ya7,ycL];omega
def zaV{ks:List Int}{k:Int}:k∈zae ks↔(0<=k/\k<8)/\k∈ks:=by
 unfold zae;rw [yb3,zj7,decide_eq_true_iff]
def zbc{ks:List Int}:(zae ks).Pairwise (· < ·):=List.Pairwise.filter _ (by unfold zeN;decide)
def zau{ks:List Int}:(zae ks).length<=8:=by
 have:=ybf (fun x=>decide (x∈ks)) zeN;exact this
def zf2{l:List Int}(h:l.Pairwise (· < ·)):l.Nodup:=List.Pairwise.imp (fun {a b} h=>by omega) h
def zjk{a b:List Int}(ha:a.Pairwise (· < ·))(hb:b.Pairwise (· < ·))(h:∀x,x∈a↔x∈b):a=b:=by
 have p:a.Perm b:=(List.perm_ext_iff_of_nodup (zf2 ha) (zf2 hb)).mpr h;exact PySem.W.lks_uniq p (List.Pairwise.imp (fun {a b} h=>by omega) ha) (List.Pairwise.imp (fun {a b} h=>by omega) hb)
def zmC{ks:List Int}{k:Int}(h:k∈ks):zae (ks++[k])=zae ks:=by
 refine zjk zbc zbc fun x=>?_
 rw [zaV,zaV,ybo,yaJ];constructor
 ·rintro ⟨a,b | rfl⟩
  ·exact ⟨a,b⟩
  ·exact ⟨a,h⟩
 ·rintro ⟨a,b⟩;exact ⟨a,.inl b⟩
def zhy{a b:Int}(ha:0<=a)(hb:0<=b):a.toNat<b.toNat↔a<b:=by omega
def zcg{l:List Int}(h:l.Pairwise (· < ·))(h0:∀x∈l,0<=x):(l.map Int.toNat).Pairwise (· < ·):=by
 rw [ycf];exact ybO (fun {a b} ha hb hab=>(zhy (h0 a ha) (h0 b hb)).mpr hab) h
def zcr{ks:List Int}:∀x∈zae ks,0<=x:=fun x hx=>(zaV.mp hx).1.1
def zgC{ks:List Int}{k:Int}{c:Nat}(hk:0<=k/\k<8)(hn:k ∉ ks)(hc:Cut ((zae ks).map Int.toNat) k.toNat c):zae (ks++[k])=(zae ks).take c++k::(zae ks).drop c:=by
 have hnc:k ∉ zae ks:=fun z=>hn (zaV.mp z).2
 have hs:((zae ks).take c++k::(zae ks).drop c).Pairwise (· < ·):=by
  have h1:=zn0 (zcg zbc zcr) hc (j:=k.toNat) (fun z=>by
   obtain ⟨x,hx,e⟩:=yao.mp z;have:=zcr x hx
   exact hnc (by rw [show k=x by omega];exact hx))
  rw [<-List.map_take,<-List.map_drop,<-yau,<-ybP,ycf] at h1;refine ybO (fun {a b} ha hb hab=>?_) h1
  have pos:∀x∈(zae ks).take c++k::(zae ks).drop c,0<=x:=fun x hx=>by
   rcases ybo.mp hx with h | h
   ·exact zcr x (List.mem_of_mem_take h)
   ·rcases yat.mp h with rfl | h
    ·exact hk.1
    ·exact zcr x (List.mem_of_mem_drop h)
  exact (zhy (pos a ha) (pos b hb)).mp hab
 refine zjk zbc hs fun x=>?_
 rw [zoO,zaV,zaV,ybo,yaJ];constructor
 ·rintro ⟨a,b | rfl⟩
  ·exact .inr ⟨a,b⟩
  ·exact .inl rfl
 ·rintro (rfl | ⟨a,b⟩)
  ·exact ⟨hk,.inr rfl⟩
  ·exact ⟨a,.inl b⟩
def zeZ(prog:Program)(w:World){k:Int}(h:0<=k/\k<8):(intKind prog w).hash k=k:=by
 have:k=0\/k=1\/k=2\/k=3\/k=4\/k=5\/k=6\/k=7:=by omega
 rcases this with rfl | rfl | rfl | rfl | rfl | rfl | rfl | rfl<;>rfl
def ziV{k:Int}(h:0<=k/\k<8):SetTable.bits k=k.toNat:=by
 unfold SetTable.bits;rw [Int.emod_eq_of_lt h.1 (by omega)]
structure Els(l:List Int)(es:List (Int×Value)):Prop where
 len:es.length=l.length
 at':∀(i:Nat) (k:Int),l[i]?=some k->∃tk,es[i]?=some (k,Value.int k tk)
def Els.mem{l:List Int}{es:List (Int×Value)}(h:Els l es){e:Int×Value}(he:e∈es):∃k tk,k∈l/\e=(k,Value.int k tk):=by
 obtain ⟨i,hi,rfl⟩:=ycT.mp he
 have hl:i<l.length:=by rw [<-h.len];exact hi
 obtain ⟨tk,e⟩:=h.at' i _ (yad hl);rw [yad hi] at e;exact ⟨_,tk,yba hl,Option.some.inj e⟩
def Els.has{l:List Int}{es:List (Int×Value)}(h:Els l es){k:Int}(hk:k∈l):∃tk,(k,Value.int k tk)∈es:=by
 obtain ⟨i,hi,rfl⟩:=ycT.mp hk;obtain ⟨tk,e⟩:=h.at' i _ (yad hi);exact ⟨tk,ya3 e⟩
def Els.ins{l:List Int}{es:List (Int×Value)}(h:Els l es)(c:Nat)(hc:c<=l.length)(k:Int)(tk:Tok):Els (l.take c++k::l.drop c) (es.take c++(k,Value.int k tk)::es.drop c) where
 len:=by simp only [yav,yap,yaN,yck,h.len]
 at':=fun i x e=>by
  have hl:=h.len
  rcases Nat.lt_trichotomy i c with a | a | a
  ·rw [yaP (by rw [yaN];omega),yc6,if_pos a] at e;obtain ⟨t,z⟩:=h.at' i x e;exact ⟨t,by rw [yaP (by rw [yaN];omega),yc6,if_pos a];exact z⟩
  ·subst a;rw [yaz (by rw [yaN];omega),yaN,yc1 hc,ydc] at e;cases e;exact ⟨tk,by rw [yaz (by rw [yaN];omega),yaN,yc1 (by omega),ydc];rfl⟩
  ·rw [yaz (by rw [yaN];omega),yaN,yc1 hc,show i-c=(i-c-1)+1 by omega,List.getElem?_cons_succ,ybt] at e;obtain ⟨t,z⟩:=h.at' _ x e;exact ⟨t,by rw [yaz (by rw [yaN];omega),yaN,yc1 (by omega),show i-c=(i-c-1)+1 by omega,List.getElem?_cons_succ,ybt];exact z⟩
def Els.hashes{l:List Int}{es:List (Int×Value)}(h:Els l es):es.map (·.1)=l:=by
 apply yby;intro i;rw [yas]
 cases e:l[i]? with
 | none =>
  have:es[i]?=none:=by rw [List.getElem?_eq_none_iff] at e ⊢;rw [h.len];exact e
  rw [this];rfl
 | some k =>
  obtain ⟨tk,z⟩:=h.at' i k e;rw [z];rfl
noncomputable def byT(w:World):Bool:=w.params.followText "set-order"
structure ISet(w:World)(h:Heap)(a:Addr)(ks:List Int):Prop where
 ex:∃o es ep t,h.get? a=some o/\o.ExactSet/\o.data=.set es ep t/\t.place.toList=(zae ks).map Int.toNat/\t.dummies=#[]/\t.plain=true/\t.led=!byT w/\(t.mask=31\/(t.mask=7/\(zae ks).length<=4))/\Els (zae ks) es.toList
section
variable{prog:Program}{w:World}{A:Around}{E:Z5}{s:Shared}
def zdj{es:Array (Int×Value)}{t:SetTable}{l:List Int}(hl:l.length<=8)(h1:t.place.toList=l.map Int.toNat)(h2:t.dummies=#[])(h3:t.mask=31\/(t.mask=7/\l.length<=7))(h4:Els l es.toList):t.fits es.size=true:=by
 have e1:t.place.size=l.length:=by rw [<-yaB,h1,yaf]
 have e2:es.size=l.length:=by rw [<-yaB,h4.len]
 unfold SetTable.fits SetTable.fill;rw [e1,e2,h2];have:(#[]:Array Nat).size=0:=rfl;rw [this];simp only [ybD,Bool.true_and,yay]
 rcases h3 with z | ⟨z,y⟩<;>rw [z]<;>omega
def zmp{es:Array (Int×Value)}{l:List Int}(hs:∀x∈l,0<=x/\x<8)(h:Els l es.toList):ElemsOf (intKind prog w) es.toList:=fun e he=>by
 obtain ⟨k,tk,hk,rfl⟩:=h.mem he;exact ⟨⟨k,intKind_is _ _ _ _,(zeZ prog w (hs k hk)).symm⟩,rfl⟩
def zkB{t:SetTable}{l:List Int}{k:Int}(hl:l.Pairwise (· < ·))(h0:∀x∈l,0<=x)(hk:0<=k/\k<8)(hn:k ∉ l)(h1:t.place.toList=l.map Int.toNat)(h2:t.dummies=#[])(h3:7<=t.mask):t.freeSlot k=some (k.toNat,false):=by
 have hj:SetTable.bits k % (t.mask+1)=k.toNat:=by
  rw [ziV hk];exact Nat.mod_eq_of_lt (by omega)
 have hnp:k.toNat ∉ t.place.toList:=by
  rw [h1];intro z;obtain ⟨x,hx,e⟩:=yao.mp z;have:=h0 x hx;exact hn (by rw [show k=x by omega];exact hx)
 have es:=zjl (t:=t) (by rw [h1];exact zcg hl h0) h2 hnp;unfold SetTable.freeSlot SetTable.probe
 have e0:10*SetTable.turns t.mask=(10*SetTable.turns t.mask-1)+1:=by unfold SetTable.turns;omega
 rw [e0];unfold SetTable.probe.go;have ep:(t.probeStart k).j=k.toNat:=hj;have ed:(t.probeStart k).dummy=none:=rfl;rw [ep,es,ed];rfl
def zoQ{t:SetTable}{es:Array (Int×Value)}{ks:List Int}{k:Int}{tk:Tok}(hk:0<=k/\k<8)(hn:k ∉ ks)(h1:t.place.toList=(zae ks).map Int.toNat)(h2:t.dummies=#[])(h3:t.mask=31\/(t.mask=7/\(zae ks).length<=4))(h4:Els (zae ks) es.toList) :
  ∃es1 t1,layNew t es k (.int k tk)=(es1,t1,false,false)/\t1.place.toList=(zae (ks++[k])).map Int.toNat/\t1.dummies=#[]/\t1.plain=t.plain/\t1.led=t.led/\t1.mask=t.mask/\t1.finger=t.finger/\Els (zae (ks++[k])) es1.toList:=by
 have hnc:k ∉ zae ks:=fun z=>hn (zaV.mp z).2
 have hm:7<=t.mask:=by rcases h3 with z | ⟨z,_⟩<;>rw [z]<;>decide
 have fs:=zkB zbc zcr hk hnc h1 h2 hm;obtain ⟨c,hc⟩:=zh6 t.place.toList k.toNat (by rw [h1];exact zcg zbc zcr);have eb:SetTable.below t.place k.toNat=c:=zeC hc;rw [h1] at hc
 have hcl:c<=(zae ks).length:=by have:=hc.1;rwa [yaf] at this
 have en:=zgC hk hn hc;refine ⟨SetTable.insertAt es c (k,.int k tk),{ t with place:=SetTable.insertAt t.place c k.toNat },?_,?_,h2,rfl,rfl,rfl,rfl,?_⟩
 ·have fit:({ t with place:=SetTable.insertAt t.place c k.toNat }:SetTable).fits (SetTable.insertAt es c (k,.int k tk)).size=true:=by
   refine zdj (l:=zae (ks++[k])) zau ?_ h2 ?_ ?_
   ·show (SetTable.insertAt t.place c k.toNat).toList=_;rw [zcB,h1,en,<-List.map_take,<-List.map_drop,ybP,yau]
   ·have hl:(zae (ks++[k])).length=(zae ks).length+1:=by
     rw [en];simp only [yav,yap,yaN,yck];omega
    rcases h3 with z | ⟨z,y⟩
    ·exact .inl z
    ·exact .inr ⟨z,by omega⟩
   ·rw [zcB,en];exact h4.ins c hcl k tk
  unfold layNew;rw [fs];dsimp only;rw [zqP h2];dsimp only;rw [eb];unfold SetTable.orStandIn;rw [fit];rfl
 ·show (SetTable.insertAt t.place c k.toNat).toList=_;rw [zcB,h1,en,<-List.map_take,<-List.map_drop,ybP,yau]
 ·rw [zcB,en];exact h4.ins c hcl k tk
noncomputable def zka(hs:Array Int):Option (List (Nat×Nat)):=(SetTable.layClean 31 hs).map fun owner=>(List.range 32).filterMap fun j=>(owner.getD j none).map (j,·)
noncomputable def zsw(b0 b1 b2 b3 b4 b5 b6 b7:Bool):List Int:=(if b0 then [0] else [])++((if b1 then [1] else [])++((if b2 then [2] else [])++((if b3 then [3] else [])++((if b4 then [4] else [])++((if b5 then [5] else [])++((if b6 then [6] else [])++(if b7 then [7] else [])))))))
def zl2:∀b0 b1 b2 b3 b4 b5 b6 b7:Bool,(zsw b0 b1 b2 b3 b4 b5 b6 b7).length=5->zka (zsw b0 b1 b2 b3 b4 b5 b6 b7).toArray=some (((zsw b0 b1 b2 b3 b4 b5 b6 b7).map Int.toNat).zip [0,1,2,3,4]):=by decide +kernel
def zkR(ks:List Int):zae ks=zsw (decide ((0:Int)∈ks)) (decide ((1:Int)∈ks)) (decide ((2:Int)∈ks)) (decide ((3:Int)∈ks)) (decide ((4:Int)∈ks)) (decide ((5:Int)∈ks)) (decide ((6:Int)∈ks)) (decide ((7:Int)∈ks)):=by
 have fc:∀(p:Int->Bool) (x:Int) (l:List Int),List.filter p (x::l)=(if p x then [x] else [])++List.filter p l:=fun p x l=>by
  rw [ybW];cases p x<;>rfl
 unfold zae zeN;rw [fc,fc,fc,fc,fc,fc,fc,fc,List.filter_nil,yaG];rfl
def zt4{ks:List Int}(hl:(zae ks).length=5)(f mv:Nat)(led pl:Bool):SetTable.laid 31 f mv led pl (zae ks).toArray=some ({ mask:=31,place:=((zae ks).map Int.toNat).toArray,dummies:=#[],finger:=f,led:=led,moves:=mv,plain:=pl },#[0,1,2,3,4]):=by
 have e:zka (zae ks).toArray=some (((zae ks).map Int.toNat).zip [0,1,2,3,4]):=by
  rw [zkR] at hl ⊢;exact zl2 _ _ _ _ _ _ _ _ hl
 unfold zka at e;unfold SetTable.laid
 cases q:SetTable.layClean 31 (zae ks).toArray with
 | none=>rw [q] at e;cases e
 | some owner =>
  rw [q] at e;have e':(List.range 32).filterMap (fun j=>(owner.getD j none).map (j,·))=((zae ks).map Int.toNat).zip [0,1,2,3,4]:=Option.some.inj e;show some _=some _;rw [e'];have z1:(((zae ks).map Int.toNat).zip [0,1,2,3,4]).map (·.1)=(zae ks).map Int.toNat:=List.map_fst_zip (by rw [yaf,hl];exact yah _);have z2:(((zae ks).map Int.toNat).zip [0,1,2,3,4]).map (·.2)=[0,1,2,3,4]:=List.map_snd_zip (by rw [yaf,hl];exact yah _);rw [z1,z2]
def zyH{α:Type}{es:Array α}(h:es.size=5):(#[0,1,2,3,4]:Array Nat).filterMap (es[·]?)=es:=by
 obtain ⟨l⟩:=es
 match l,h with
 | [a,b,c,d,e],_=>rfl
def zqI{t:SetTable}{es:Array (Int×Value)}{ks:List Int}(hl:(zae ks).length=5)(h4:Els (zae ks) es.toList):∃t2,relayAll t es (SetTable.grown es.size)=(es,t2,false)/\t2.place.toList=(zae ks).map Int.toNat/\t2.dummies=#[]/\t2.plain=t.plain/\t2.led=t.led/\t2.mask=31:=by
 have hz:es.size=5:=by rw [<-yaB,h4.len,hl]
 have hh:es.map (·.1)=(zae ks).toArray:=by
  apply Array.ext';rw [Array.toList_map,h4.hashes]
 have hm:SetTable.sizeAbove (SetTable.grown 5)-1=31:=by decide
 have er:t.relaid (es.map (·.1)) (SetTable.grown es.size)=some ({ mask:=31,place:=((zae ks).map Int.toNat).toArray,dummies:=#[],finger:=t.finger,led:=t.led,moves:=t.movedTo 31,plain:=t.plain },#[0,1,2,3,4]):=by
  unfold SetTable.relaid;rw [hz,hm,hh];exact zt4 hl _ _ _ _
 refine ⟨{ mask:=31,place:=((zae ks).map Int.toNat).toArray,dummies:=#[],finger:=t.finger,led:=t.led,moves:=t.movedTo 31,plain:=t.plain },?_,rfl,rfl,rfl,rfl,rfl⟩;unfold relayAll;rw [er];dsimp only;rw [zyH hz];have fit:=zdj (es:=es) (t:={ mask:=31,place:=((zae ks).map Int.toNat).toArray,dummies:=#[],finger:=t.finger,led:=t.led,moves:=t.movedTo 31,plain:=t.plain }) (l:=zae ks) zau rfl rfl (.inl rfl) h4;rw [fit,hz]
 have cv:coversAll #[0,1,2,3,4] 5=true:=by decide
 rw [cv];rfl
def zmc{a:Addr}{ks:List Int}{k:Int}{tk:Tok}{Q:Bool->Shared->Prop}(S:ISet w s.heap a ks)(hk:0<=k/\k<8)
  (h:∀h' c,Heap.SameBut a s.heap h'->ISet w h' a (ks++[k])->Q c { s with heap:=h',toks:=s.toks+1 }):wpAny (model prog w) A (setAdd a (.int k tk)) Q E s:=by
 unfold setAdd;refine yaW (yaa ((intKind prog w).pyHash (k:=k) (intKind_is _ _ _ _) ?_));obtain ⟨o,es,ep,t,ho,hex,hd,h1,h2,h5,h6,h3,h4⟩:=S.ex;have hsm:∀x∈zae ks,0<=x/\x<8:=fun x hx=>(zaV.mp hx).1
 have hf:t.fits es.size=true:=zdj zau h1 h2 (h3.imp id fun z=>⟨z.1,by omega⟩) h4;have hel:ElemsOf (intKind prog w) es.toList:=zmp hsm h4
 have hz:es.size<=8:=by rw [<-yaB,h4.len];exact zau
 have hb:es.size<scanBound:=by unfold scanBound;omega
 unfold setAddHashed setAddHashedIn;refine yaW (yaa (wpAny_setState_of (s:={ s with toks:=s.toks+1 }) ho hd hf ?_));dsimp only;rw [byScan_of (knd:=intKind prog w) rfl hb hel];simp only [↓reduceIte];unfold setAddByScan;refine yaa ?_;refine yaa (yco ?_);refine yaa (wpAny_setScan_of (knd:=intKind prog w) (k:=k) (s:={ s with toks:=s.toks+1 }) (intKind_is _ _ _ _) ho hd hf hel ?_)
 cases hr:List.findIdx? (fun e=>(intKind prog w).is k e.2) es.toList with
 | some j =>
  dsimp only;obtain ⟨hj,hpj,_⟩:=List.findIdx?_eq_some_iff_getElem.mp hr;obtain ⟨k',tk',hk',e'⟩:=h4.mem (yba hj);rw [e'] at hpj;obtain ⟨u,eu⟩:=ydf (k:=k) (v:=Value.int k' tk') hpj
  have:k'=k:=by injection eu
  subst this;have hin:k'∈ks:=(zaV.mp hk').2;refine yac (yac (h s.heap _ (Heap.SameBut.refl a s.heap) ?_));refine ⟨o,es,ep,t,ho,hex,hd,?_⟩;rw [zmC hin];exact ⟨h1,h2,h5,h6,h3,h4⟩
 | none =>
  dsimp only
  have hni:k ∉ ks:=fun z=>by
   obtain ⟨tk',he⟩:=h4.has (zaV.mpr ⟨hk,z⟩);have:=List.findIdx?_eq_none_iff.mp hr _ he;rw [intKind_is] at this;cases this
  obtain ⟨es1,t1,eL,g1,g2,g3,g4,g5,g6,g7⟩:=zoQ (tk:=tk) hk hni h1 h2 h3 h4;rw [zeZ prog w hk,eL];dsimp only;refine yaa (ybi (a:=()) rfl ?_)
  have hsz1:es1.size=(zae (ks++[k])).length:=by rw [<-yaB,g7.len]
  have hsl:es1.size<=sizeLine:=by rw [hsz1];exact yaq zau (by decide)
  rw [g3,h5];simp only [yb4];refine yaa ?_;rw [hashByValue_scannable 8 (x:=.int k tk) rfl];refine yac ?_;have hpk:plainKind (.int k tk)=true:=rfl;rw [hpk];simp only [yb4];refine yaa (wpAny_storeSet_of (s:={ s with toks:=s.toks+1 }) ho hd ?_ hsl);obtain ⟨o1,w1,x1,d1⟩:=zvU (es':=es1) (t':=t1) ho hex hd;have sb1:Heap.SameBut a s.heap (s.heap.update a (Obj.putSet es1 t1)):=Heap.SameBut.update ..
  have hlen:(zae (ks++[k])).length=(zae ks).length+1:=by
   obtain ⟨c,hc⟩:=zh6 ((zae ks).map Int.toNat) k.toNat (zcg zbc zcr);rw [zgC hk hni hc]
   have:c<=(zae ks).length:=by have:=hc.1;rwa [yaf] at this
   simp only [yav,yap,yaN,yck];omega
  have hfill:t1.fill=(zae (ks++[k])).length:=by
   unfold SetTable.fill;rw [g2];show t1.place.size+0=_;rw [<-yaB,g1,yaf];rfl
  by_cases hfull:(!false&&t1.tooFull)=true
  ·rw [if_pos hfull]
   have h5':(zae (ks++[k])).length=5:=by
    have hf:(zae (ks++[k])).length*5 ≥ t.mask*3:=by
     have:t1.tooFull=true:=by simpa using hfull
     unfold SetTable.tooFull at this;rw [hfill,g5] at this;simpa using this
    have:=zau (ks:=ks++[k])
    rcases h3 with z | ⟨z,y⟩
    ·rw [z] at hf;omega
    ·rw [z] at hf;omega
   obtain ⟨t2,er,r1,r2,r3,r4,r5⟩:=zqI (t:=t1) h5' g7;rw [er];dsimp only;refine yaa (ybi (a:=()) rfl ?_);refine yaa (wpAny_storeSet_of (s:={ s with heap:=s.heap.update a (Obj.putSet es1 t1),toks:=s.toks+1 }) w1 d1 ?_ hsl);obtain ⟨o2,w2,x2,d2⟩:=zvU (es':=es1) (t':=t2) w1 x1 d1;have sb2:Heap.SameBut a s.heap ((s.heap.update a (Obj.putSet es1 t1)).update a (Obj.putSet es1 t2)):=sb1.trans (Heap.SameBut.update ..);refine yac ?_;dsimp only;refine yac (h _ true sb2 ⟨o2,es1,_,t2,w2,x2,d2,r1,r2,by rw [r3,g3,h5],by rw [r4,g4,h6],.inl r5,g7⟩)
  ·rw [if_neg hfull];refine yac ?_;dsimp only;refine yac (h _ true sb1 ⟨o1,es1,_,t1,w1,x1,d1,g1,g2,by rw [g3,h5],by rw [g4,h6],?_,g7⟩);rw [g5]
   rcases h3 with z | ⟨z,y⟩
   ·exact .inl z
   ·refine .inr ⟨z,?_⟩
    have:t1.tooFull=false:=by cases q:t1.tooFull with
     | false=>rfl
     | true=>rw [q] at hfull;exact absurd rfl hfull
    unfold SetTable.tooFull at this;rw [hfill,g5,z] at this;have:=of_decide_eq_false this;omega
end
end ST
namespace ST
open PySem PySem.Spec PyProof.Rows
def ISet.keep{w:World}{h h':Heap}{a:Addr}{ks:List Int}(x:ISet w h a ks)(e:∀o,h.get? a=some o->h'.get? a=some o):ISet w h' a ks:=by
 obtain ⟨o,es,ep,t,ho,r⟩:=x.ex;exact ⟨o,es,ep,t,e o ho,r⟩
theorem ISet.fresh{w:World}{h:Heap}{a:Addr}(e:h.get? a=some { cls:=.type "set",dict:=none,data:=.set #[] 0 (.fresh 0 0 (!byT w)) }):ISet w h a [] :=
 ⟨_,#[],0,.fresh 0 0 (!byT w),e,⟨rfl,rfl,rfl⟩,rfl,rfl,rfl,rfl,rfl,.inr ⟨rfl,by decide⟩,⟨rfl,fun i k z=>by cases z⟩⟩
section
variable{prog:Program}{w:World}{A:Around}{R:Result->Shared->Prop}{I:Addr}{fp wr:List Addr}{G:Array GenState->Array GenState->Prop}{n:Nat}{P:Nat->Value->Prop}{St:Nat->Shared->Prop}
def zkq(W:WalksS prog w A.in1 I fp wr G n P St)(S:Addr)(hSf:S ∉ fp)(val:Nat->Int)(hval:∀i v,P i v->∃t,v=.int (val i) t)(hs:∀i,i<n->0<=val i/\val i<8) :
  ∀(k i:Nat) (s:Shared),n-i=k->i<=n->St i s->ISet w s.heap S ((List.range i).map val) →
   (∀s',Moved (S::wr) G s s'->ISet w s'.heap S ((List.range n).map val)->R (.ok (.ret .none)) s') →
   codeAny (model prog w) A (.builtin "set.update.loop" ⟨[.ref S,.ref I],[]⟩) R s:=by
 have hSw:S ∉ wr:=fun h=>hSf (W.sub _ h)
 have hsub:∀b∈wr,b∈S::wr:=fun b hb=>yaw _ hb
 intro k
 induction k with
 | zero =>
  intro i s hk hi hst hS hR
  have hin:i=n:=by omega
  subst hin;refine ybs ych ?_;rw [ya8 ybw _];show wpAny _ A.in1 (pyNext (.ref I) >>= _) _ _ s;refine yaa (W.done s _ _ hst fun s' hm=>?_);show wpAny _ A.in1 (ret Value.none) _ _ s';exact yac (hR s' (hm.mono hsub) (hS.keep fun o ho=>hm.heap S _ hSw ho))
 | succ k ih =>
  intro i s hk hi hst hS hR
  have hlt:i<n:=by omega
  refine ybs ych ?_;rw [ya8 ybw _];show wpAny _ A.in1 (pyNext (.ref I) >>= _) _ _ s;refine yaa (W.item i s _ _ hlt hst fun v s' hP hst' hm=>?_);obtain ⟨t,rfl⟩:=hval i v hP;have hS':ISet w s'.heap S ((List.range i).map val):=hS.keep fun o ho=>hm.heap S _ hSw ho
  show wpAny _ A.in1 (holding [Value.int (val i) t] (setAdd S (.int (val i) t)) >>= _) _ _ s';refine yaa (yaW ?_);refine zmc hS' (hs i hlt) fun h' c hsb hS2=>?_
  have hSi:ISet w h' S ((List.range (i+1)).map val):=by
   rw [yb9,ybP];exact hS2
  refine yac ⟨yce ybw _,ih (i+1) _ (by omega) hlt (W.frame _ s' _ _ hst' (ybu _) fun b hb o e=>?_) hSi fun s'' hm'' hS''=>?_⟩
  ·rw [hsb.2 b (fun h:b=S=>hSf (by rw [<-h];exact hb))];exact e
  ·refine hR s'' (Moved.trans W.gtrans ((hm.mono hsub).then_heap (ybu _) fun b o hb e=>?_) hm'') hS'';rw [hsb.2 b (fun h:b=S=>hb (by rw [h];exact yaD))];exact e
end
end ST
namespace PySem
section
variable{prog:Program}{w:World}{A:Around}{E:Z5}{s:Shared}
def zfK(a:Value){Q₁:Z5}
  (h:Q₁ (.ref s.heap.objs.size) { s with heap:=s.heap.push { cls:=.type "set",dict:=none,data:=.set #[] 0 (.fresh 0 0 (!ST.byT w)) } }) :
  codeAny (model prog w) A (.call (.builtin "set.__new__") ⟨[.type "set",a],[]⟩) (wants Q₁ E) s:=by
 refine codeAny_of_tree ?_;show wpAny _ A.in1 (do checkBuiltinCall "set.__new__" ⟨[.type "set",a],[]⟩;again (.builtin "set.__new__" ⟨[.type "set",a],[]⟩)) _ _ s;refine yaa (ybi (F.newCall_set_1 a) (yac ⟨yce F.plain_set_new _,ybs F.entry_set_new ?_⟩));rw [ya8 F.plain_set_new _];unfold Builtin.«set.__new__» Builtin.Frozenset.newClass;have hsub:=sub_set_self;obtain ⟨hp,g,d,tk,os⟩:=s;dsimp only
 wp_walk
 refine wpAny_askSetting (yac ?_);dsimp only;simp only [newObj];refine yaa (wpAny_alloc (yac ?_));exact yac h
def zkS{l:Addr}{items:Array Value}{ns:List Int}{Q:Z5}
  (hh:A.handled=none) (hl:s.heap.IsList l items) (hi:PyProof.Rows.IntsAre items.toList ns) (hs:∀k∈ns,0<=k/\k<8)
  (h:∀(h':Heap) (tk:Nat),ST.ISet w h' s.heap.objs.size ns->(∀b o,s.heap.get? b=some o->h'.get? b=some o)->Q (.ref s.heap.objs.size) { s with heap:=h',toks:=tk }) :
  wpAny (model prog w) A (call (.type "set") [.ref l]) Q E s:=by
 have hnl:items.size=ns.length:=by rw [<-yaB];exact PyProof.Rows.IntsAre.length hi
 have ern:(List.range items.size).map (fun i=>ns.getD i 0)=ns:=by
  apply yby;intro i;rw [yas,hnl]
  by_cases hi:i<ns.length
  ·rw [List.getElem?_range hi,yad hi];show some (ns.getD i 0)=_;rw [yai,yad hi];rfl
  ·rw [yaQ (by rw [ycI];omega),yaQ (by omega)];rfl
 obtain ⟨c,tl,hmro⟩:=yca.mro;have hmade:=yca.made;have hsub:=yca.sub;refine wpAny_call (codeAny_of_tree ?_);show wpAny _ _ (callAny (.type "set") _) _ _ _;refine yac ⟨Code.quiet_builtin _ (by decide +kernel),ybs F.entry_type_call ?_⟩;rw [Around.under_plain (weight_type_call_type "set" [.ref l] []) rfl];have h1:=yca.notType;have h2:=yca.canCreate;have hct:=F.typeCall_set_1 (.ref l)
 repeat (any_goals (first | assumption | wp_step))
 refine ycN (zfK (.ref l) (E:=E) (Q₁:=fun obj s₁=>obj=.ref s.heap.objs.size/\s₁={ s with heap:=s.heap.push { cls:=.type "set",dict:=none,data:=.set #[] 0 (.fresh 0 0 (!ST.byT w)) } }) ⟨rfl,rfl⟩) fun r s₁ hr=>?_
 cases r with
 | error e=>exact hr
 | ok fl =>
  cases fl with
  | ret obj =>
   obtain ⟨rfl,rfl⟩:=hr;generalize hG:s.heap.push { cls:=.type "set",dict:=none,data:=.set #[] 0 (.fresh 0 0 (!ST.byT w)) }=G;have hS:G.get? s.heap.objs.size=some { cls:=.type "set",dict:=none,data:=.set #[] 0 (.fresh 0 0 (!ST.byT w)) }:=hG ▸ yak _ rfl;have upG:∀b o,s.heap.get? b=some o->G.get? b=some o:=fun b o e=>hG ▸ yae _ e
   have hGz:G.objs.size=s.heap.objs.size+1:=by rw [<-hG,ybL]
   have hT:Shared.TypeIs { s with heap:=G } (.ref s.heap.objs.size) "set":=⟨_,hS,rfl⟩;have hli:=yca.init.lookup;have hbi:=yca.init.bind (.ref s.heap.objs.size)
   repeat (any_goals (first | assumption | wp_step))
   refine ycN (codeAny_call_builtin (R:=wants (fun r s₂=>r=.none/\∃h' tk,s₂={ s with heap:=h',toks:=tk }/\ST.ISet w h' s.heap.objs.size ns ∧
     (∀b o,s.heap.get? b=some o->h'.get? b=some o)) E) yca.init.plain F.entry_set_init (check_set_init_1 hT ?_)) fun r₂ s₂ hr₂=>?_
   ·obtain ⟨ol,hol,hcl,nl,hdl⟩:=hl;have hol':G.get? l=some ol:=upG l ol hol;obtain ⟨ocls,odict,odata,oslots⟩:=ol;simp only at hcl hdl;subst hcl;subst hdl;have hsls:=F.sub_list_set;have hslf:=F.sub_list_frozenset
    have hne:(Value.type "list" == Value.type "dict")=false:=by decide
    have hl1:G.IsList l items:=⟨_,hol',rfl,nl,rfl⟩;unfold Builtin.«set.__init__» noKeywords Builtin.Frozenset.updateFrom;generalize hPI:pyIter=PI
    wp_walk
    subst hPI;refine ycb hl1 ?_;refine yaa (wpAny_runValue ?_);have hlS:l<s.heap.objs.size:=yan hol
    have hh3:A.in1.in1.in1.handled=none:=by simp [hh]
    have hneI:l≠G.objs.size:=by rw [hGz];exact yar (ya0 hlS)
    have hSf:s.heap.objs.size ∉ [G.objs.size,l]:=by
     rw [hGz];simp only [yat,yaJ,ya7,ycL,not_or];exact ⟨yar (ybU _),ybj hlS⟩
    have hval:∀(i:Nat) (v:Value),items[i]?=some v->∃t,v=.int ((fun i=>ns.getD i 0) i) t:=fun i v hv =>
     PyProof.Rows.IntsAre.int_at hi i v (by rw [ybe];exact hv)
    refine ST.zkq ((Walks.list hh3 _ l hneI items).toS) s.heap.objs.size hSf (fun i=>ns.getD i 0) hval (fun i hi=>?_) (items.size-0) 0 _ (by omega) (yaL _)
     ⟨⟨_,yak _ rfl,rfl,rfl⟩,(hl1.push _)⟩ ?hS0 ?hR
    ·have hlt:i<ns.length:=by omega
     show 0<=ns.getD i 0/\ns.getD i 0<8;rw [yai,yad hlt];exact hs _ (yba hlt)
    case hS0=>exact ST.ISet.fresh (yae _ hS)
    case hR =>
     intro s' hm hS';rw [ern] at hS';obtain ⟨h',g',d',tk',os'⟩:=s';have eg:g'=s.gens:=hm.gens;have ed:d'=s.drawn:=hm.drawn;have eo:os'=s.os:=hm.os;subst eg;subst ed;subst eo;show wpAny _ _ _ _ _ _;refine yac ?_;show wpAny _ _ (ret Value.none) _ _ _;refine yac ⟨rfl,h',tk',rfl,hS',fun b o e=>?_⟩;have hb1:b≠s.heap.objs.size:=yar (yan e)
     have hb2:b≠G.objs.size:=by rw [hGz];exact yar (ya0 (yan e))
     exact hm.heap b o (by simp only [yat,yaJ,ya7,ycL,not_or];exact ⟨hb1,hb2⟩) (yae _ (upG b o e))
   ·cases r₂ with
    | error e=>exact hr₂
    | ok fl₂ =>
     cases fl₂ with
     | ret r =>
      obtain ⟨rfl,h',tk,rfl,hS',hk'⟩:=hr₂
      repeat (any_goals (first | assumption | wp_step))
      exact h _ _ hS' hk'
     | _=>exact hr₂.elim
  | _=>exact hr.elim
end
end PySem
namespace ST
open PySem PySem.Spec PyProof.Rows
def za4:Slot "set_iterator" "__next__" "set_iterator.__next__" :=
 .of (owner:="set_iterator") (n:="__next__") (by rw [ybr,yaY];kernel_rfl) (by decide +kernel) (by decide +kernel) (by decide +kernel)
  (by first | exact .inl (by decide +kernel) | exact .inr (by decide +kernel)) (by rw [ybn];kernel_rfl)
def zdH:Slot "set_iterator" "__iter__" "set_iterator.__iter__" :=
 .of (owner:="set_iterator") (n:="__iter__") (by rw [ybr,yaY];kernel_rfl) (by decide +kernel) (by decide +kernel) (by decide +kernel)
  (by first | exact .inl (by decide +kernel) | exact .inr (by decide +kernel)) (by rw [ybn];kernel_rfl)
def zdm:entryFor table "set_iterator.__next__" = some Builtin.«set_iterator.__next__»:=ycQ (by kernel_rfl)
def zfF:entryFor table "set_iterator.__iter__" = some Builtin.«dict_keyiterator.__iter__» :=
 entryFor_alias (id':="dict_keyiterator.__iter__") (by kernel_rfl) rfl (by decide +kernel) (by kernel_rfl)
def zgx:entryFor table "set.__iter__" = some Builtin.«frozenset.__iter__» :=
 entryFor_alias (id':="frozenset.__iter__") (by kernel_rfl) rfl (by decide +kernel) (by kernel_rfl)
def zhN:Manifest.owners.lookup (String.ofList ['r','o','t','a','r','e','t','i','_','t','e','s'].reverse)=some Manifest.sig_set_iterator:=by kernel_rfl
def zdS(a:Value):argsOk "set_iterator.__next__" ⟨[a],[]⟩:=by
 unfold argsOk;rw [ycU (id:="set_iterator.__next__") (n:=['_','_','t','x','e','n','_','_']) (o:=['r','o','t','a','r','e','t','i','_','t','e','s']) (by kernel_rfl) zhN];kernel_rfl
def zgM(a:Value):argsOk "set_iterator.__iter__" ⟨[a],[]⟩:=by
 unfold argsOk;rw [ycU (id:="set_iterator.__iter__") (n:=['_','_','r','e','t','i','_','_']) (o:=['r','o','t','a','r','e','t','i','_','t','e','s']) (by kernel_rfl) zhN];kernel_rfl
noncomputable def SAt(w:World)(h:Heap)(a:Addr)(ks:List Int)(es:Array (Int×Value))(ep:Nat)(t:SetTable):Prop :=
 (∃o,h.get? a=some o/\o.ExactSet/\o.data=.set es ep t)/\t.place.toList=(zae ks).map Int.toNat/\t.dummies=#[]/\t.plain=true/\t.led=!byT w/\(t.mask=31\/(t.mask=7/\(zae ks).length<=4))/\Els (zae ks) es.toList
def ISet.sat{w:World}{h:Heap}{a:Addr}{ks:List Int}(x:ISet w h a ks):∃es ep t,SAt w h a ks es ep t:=by
 obtain ⟨o,es,ep,t,h1,h2,h3,r⟩:=x.ex;exact ⟨es,ep,t,⟨o,h1,h2,h3⟩,r⟩
def SAt.at{w:World}{h h':Heap}{a:Addr}{ks:List Int}{es:Array (Int×Value)}{ep:Nat}{t:SetTable}(x:SAt w h a ks es ep t)(e:∀o,h.get? a=some o->h'.get? a=some o):SAt w h' a ks es ep t :=
 let ⟨⟨o,h1,r⟩,q⟩:=x;⟨⟨o,e o h1,r⟩,q⟩
noncomputable def zmM(h:Heap)(it a:Addr)(sl i n ep:Nat):Prop:=∃o,h.get? it=some o/\o.cls=.type "set_iterator" /\ o.data=.fields #[.int sl 0,.int i 0,.ref a,.int n 0,.int ep 0]
def zmM.typeIs{s:Shared}{it a:Addr}{sl i n ep:Nat}(x:zmM s.heap it a sl i n ep):s.TypeIs (.ref it) "set_iterator":=let ⟨o,ho,hc,_⟩:=x;⟨o,ho,hc⟩
def zmM.at{h h':Heap}{it a:Addr}{sl i n ep:Nat}(x:zmM h it a sl i n ep)(e:∀o,h.get? it=some o->h'.get? it=some o):zmM h' it a sl i n ep:=let ⟨o,ho,r⟩:=x;⟨o,e o ho,r⟩
noncomputable def zi0(w:World)(a:Addr)(ep:Nat)(es:Array (Int×Value)):Array (Int×Value):=if byT w then pickOrder (w.params.setOrder a ep) es else es
noncomputable def slN(w:World)(l:List Int)(i:Nat):Nat:=if byT w then 0 else if i=0 then 0 else (l.getD (i-1) 0).toNat+1
theorem ze2{α:Type}:∀(l:List α) (i:Nat) (h:i<l.length),([l[i]]++l.eraseIdx i).Perm l
 | x::xs,0,_=>List.Perm.refl _
 | x::xs,i+1,h=>by
  have h':i<xs.length:=by simpa using h
  exact (List.Perm.swap x (xs[i]'h') (xs.eraseIdx i)).trans (List.Perm.cons x (ze2 xs i h'))
theorem zjL{α:Type}{next:Nat->Nat}:∀(fuel k:Nat) (left:List α) (out:Array α),left.length<=fuel->(pickOrder.go next fuel k left out).toList.Perm (out.toList++left)
 | 0,k,left,out,h=>by
  have:left=[]:=ybb (by omega);subst this;unfold pickOrder.go;rw [yaG]
 | fuel+1,k,[],out,h=>by
  unfold pickOrder.go;have:([]:List α)[next k % ([]:List α).length]?=none:=rfl;rw [this,yaG]
 | fuel+1,k,x::xs,out,h=>by
  have hlt:next k % (x::xs).length<(x::xs).length:=Nat.mod_lt _ (by simp);unfold pickOrder.go;rw [yad hlt];dsimp only
  have hl:((x::xs).eraseIdx (next k % (x::xs).length)).length<=fuel:=by
   rw [List.length_eraseIdx_of_lt hlt];simp at h ⊢;exact h
  refine (zjL fuel (k+1) _ _ hl).trans ?_;rw [Array.toList_push,ybN];refine List.Perm.append_left _ ?_;exact ze2 _ _ hlt
def zjK{α:Type}{next:Nat->Nat}(xs:Array α):(pickOrder next xs).toList.Perm xs.toList:=by
 have:=zjL (next:=next) xs.size 0 xs.toList #[] (by simp);unfold pickOrder;simpa using this
def zfp{w:World}{a:Addr}{ep:Nat}{es:Array (Int×Value)}:(zi0 w a ep es).toList.Perm es.toList:=by
 unfold zi0;split
 ·exact zjK es
 ·exact List.Perm.refl _
def zd3{w:World}{a:Addr}{ep:Nat}{es:Array (Int×Value)}:(zi0 w a ep es).size=es.size:=by
 rw [<-yaB,zfp.length_eq,yaB]
section
variable{prog:Program}{w:World}{A:Around}{E:Z5}{s:Shared}{a:Addr}{ks:List Int}{es:Array (Int×Value)}{ep:Nat}{t:SetTable}
theorem SAt.fits{h:Heap}(x:SAt w h a ks es ep t):t.fits es.size=true:=by
 obtain ⟨_,h1,h2,_,_,h3,h4⟩:=x;exact zdj zau h1 h2 (h3.imp id fun z=>⟨z.1,by omega⟩) h4
def zc4{Q:(Array (Int×Value)×Nat×SetTable)->Shared->Prop}(x:SAt w s.heap a ks es ep t)(h:Q (es,ep,t) s):wpAny (model prog w) A (setState a) Q E s:=by
 obtain ⟨o,ho,_,hd⟩:=x.1;exact wpAny_setState_of ho hd x.fits h
def zi2{Q:Bool->Shared->Prop}(h:Q (byT w) s):wpAny (model prog w) A setsByText Q E s:=by
 unfold setsByText;exact yaa (wpAny_askSetting (yac h))
def zmK{l:List Int}{place:Array Nat}(h1:place.toList=l.map Int.toNat)(hs:l.Pairwise (· < ·))(h0:∀x∈l,0<=x){i:Nat}(hi:i<=l.length):SetTable.below place (if i=0 then 0 else (l.getD (i-1) 0).toNat+1)=i:=by
 refine zeC ?_;have ps:=zcg hs h0;rw [h1];refine ⟨by rw [yaf];exact hi,?_,?_⟩
 ·intro k x hk hx;split
  ·omega
  ·rename_i hne;rw [yas] at hx
   have hkl:k<l.length:=by omega
   have hil:i-1<l.length:=by omega
   rw [yad hkl] at hx;cases hx;rw [yai,yad hil];show l[k].toNat<l[i-1].toNat+1
   rcases ydd k (i-1) with z | z
   ·have:=yci.mp hs k (i-1) hkl hil z;have:=h0 _ (yba hkl);omega
   ·have:k=i-1:=by omega
    subst this;omega
 ·intro k x hk hx;split
  ·omega
  ·rename_i hne;rw [yas] at hx
   have hkl:k<l.length:=by
    rcases ydd k l.length with z | z
    ·exact z
    ·rw [yaQ z] at hx;cases hx
   have hil:i-1<l.length:=by omega
   rw [yad hkl] at hx;cases hx;rw [yai,yad hil];show l[i-1].toNat+1<=l[k].toNat;have:=yci.mp hs (i-1) k hil hkl (by omega);have:=h0 _ (yba hil);omega
def zi1{Q:Option (Value×Nat)->Shared->Prop}(x:SAt w s.heap a ks es ep t){i:Nat}(hi:i<=es.size)
  (h:Q ((zi0 w a ep es)[i]?.map fun e=>(e.2,slN w (zae ks) (i+1))) s):wpAny (model prog w) A (setNext a (slN w (zae ks) i) i ep) Q E s:=by
 obtain ⟨_,h1,h2,h5,h6,h3,h4⟩:=id x;unfold setNext;refine yaa (zc4 x ?_);dsimp only;refine yaa (zi2 ?_);unfold zi0 slN at h;unfold slN
 cases hb:byT w with
 | true =>
  rw [hb] at h;simp only [yb4] at h ⊢;rw [if_neg (by simp)];refine yaa ?_;unfold setWalk;refine yaa (zc4 x ?_);dsimp only;refine yaa (zi2 ?_);rw [hb];simp only [yb4];refine yaa (wpAny_askSetting (yac ?_));exact yac h
 | false =>
  rw [hb] at h h6;simp only [yax,ybm] at h ⊢;obtain ⟨mask,place,dummies,finger,led,moves,plain⟩:=t;simp only at h1 h2 h5 h6 h3;subst h5 h6;refine ycu (fun z=>absurd z yaU) (fun _=>?_);refine yaa (ybi (a:=()) rfl ?_)
  have hz:es.size=(zae ks).length:=by rw [<-yaB,h4.len]
  rw [zmK h1 zbc zcr (by omega)];refine yac ?_
  rcases ydd i es.size with z | z
  ·have hl:i<(zae ks).length:=by omega
   have e1:es[i]?=some es[i]:=ya1 z
   have e2:place[i]?=some ((zae ks)[i]).toNat:=by
    rw [<-ybe,h1,yas,yad hl];rfl
   rw [e1] at h ⊢;rw [e2]
   have e3:(zae ks).getD (i+1-1) 0=(zae ks)[i]:=by
    rw [Nat.add_sub_cancel,yai,yad hl];rfl
   rwa [if_neg (by omega),e3] at h
  ·have e1:es[i]?=none:=yb1 z;rw [e1] at h ⊢;exact h
end
end ST
namespace ST
open PySem PySem.Spec PyProof.Rows
section
variable{prog:Program}{w:World}{A:Around}{E:Z5}{s:Shared}{a it:Addr}{ks:List Int}{es:Array (Int×Value)}{ep:Nat}{t:SetTable}
def zdt{Q:Array (Int×Value)->Shared->Prop}(x:SAt w s.heap a ks es ep t)(h:Q es s):wpAny (model prog w) A (setEntries a) Q E s:=by
 unfold setEntries;exact yaa (zc4 x (yac h))
def zjm{Q:Z5}(x:SAt w s.heap a ks es ep t)
  (hQ:Q (.ref s.heap.objs.size) { s with heap:=s.heap.push { cls:=.type "set_iterator",data:=.fields #[.int 0 0,.int 0 0,.ref a,.int es.size 0,.int ep 0] } }):wpAny (model prog w) A (pyIter (.ref a)) Q E s:=by
 obtain ⟨⟨o,ho,hx,hd⟩,_,_,h5,_⟩:=id x;have hT:s.TypeIs (.ref a) "set":=⟨o,ho,hx.1⟩;refine ydj hT PySem.F.slot_set_iter (yaS PySem.F.slot_set_iter hT zgx ?_ (PySem.F.args_set_iter_1 _));unfold Builtin.«frozenset.__iter__»;refine yaa (ybi (a:=a) rfl ?_);refine yaa ?_;unfold Builtin.Frozenset.sizeOf;refine yaa (zdt x (yac ?_));refine yaa ?_;unfold setDrawn;refine yaa (zc4 x ?_);dsimp only;refine yaa (zi2 ?_);refine yac ?_;obtain ⟨mask,place,dummies,finger,led,moves,plain⟩:=t;simp only at h5;subst h5
 refine ycu (fun z=>absurd z (by
  cases byT w
  ·exact yaU
  ·exact yaU)) (fun _=>?_)
 refine yaa (yac ?_);refine yaa ?_;unfold setEpoch;refine yaa (zc4 x (yac ?_));refine yaa (yaR (yac ⟨_,rfl,"set_iterator",_,⟨_,yak _ rfl,rfl⟩,za4.lookup,hQ⟩))
def zn5{Q:Option Value->Shared->Prop}{i:Nat}{e:Int×Value}(hit:zmM s.heap it a (slN w (zae ks) i) i es.size ep)(x:SAt w s.heap a ks es ep t)(hx:(zi0 w a ep es)[i]?=some e)
  (hQ:∀h',zmM h' it a (slN w (zae ks) (i+1)) (i+1) es.size ep->Heap.SameBut it s.heap h'->Q (some e.2) { s with heap:=h' }):wpAny (model prog w) A (pyNext (.ref it)) Q E s:=by
 obtain ⟨o,ho,hc,hd⟩:=id hit
 have hlt:i<=es.size:=by
  have:=(Array.getElem?_eq_some_iff.mp hx).1;rw [zd3] at this;omega
 unfold pyNext;refine yaa (ycx (ybg (name:=Str.ofString "__next__") hit.typeIs za4 (yaS za4 hit.typeIs zdm ?_ (zdS _))));unfold Builtin.«set_iterator.__next__»;refine yaa (yac ?_);refine yaa (wpAny_fieldsOf ho hd ?_);dsimp only;refine yaa (zdt x ?_);rw [if_neg (by simp)];refine yaa ?_;rw [ybz,ybz,ybz];refine zi1 x hlt ?_;rw [hx];show wpAny _ _ (setField (.ref it) 0 (rawInt (slN w (zae ks) (i+1))) >>= _) _ _ s;refine yaa (wpAny_setField ho hd (by simp) ?_);have ho1:=ybq (Obj.mapFields (·.setIfInBounds 0 (rawInt (slN w (zae ks) (i+1))))) ho (Obj.isFreed_of_fields (ybJ hd _));refine yaa (wpAny_setField (s:={ s with heap:=s.heap.update it (Obj.mapFields (·.setIfInBounds 0 (rawInt (slN w (zae ks) (i+1))))) }) ho1 (ybJ hd _) (by simp) ?_);have ho2:=ybq (Obj.mapFields (·.setIfInBounds 1 (rawInt ((i:Int)+1)))) ho1 (Obj.isFreed_of_fields (ybJ (ybJ hd _) _));refine yac ⟨_,rfl,yac (hQ _ ⟨_,ho2,?_,?_⟩ ((Heap.SameBut.update ..).trans (Heap.SameBut.update ..)))⟩
 ·exact (Obj.cls_mapFields ..).trans ((Obj.cls_mapFields ..).trans hc)
 ·rw [ybJ (ybJ hd _)];simp [rawInt]
def zqj{Q:Option Value->Shared->Prop}(hh:A.handled=none)(hit:zmM s.heap it a (slN w (zae ks) es.size) es.size es.size ep)(x:SAt w s.heap a ks es ep t)(hQ:∀h',Heap.ExtBut it s.heap h'->Q none { s with heap:=h' }):wpAny (model prog w) A (pyNext (.ref it)) Q E s:=by
 obtain ⟨o,ho,hc,hd⟩:=id hit;unfold pyNext;refine yaa (ycx (ybg (name:=Str.ofString "__next__") hit.typeIs za4 (yaS za4 hit.typeIs zdm ?_ (zdS _))));unfold Builtin.«set_iterator.__next__»;refine yaa (yac ?_);refine yaa (wpAny_fieldsOf ho hd ?_);dsimp only;refine yaa (zdt x ?_);rw [if_neg (by simp)];refine yaa ?_;rw [ybz,ybz,ybz];refine zi1 x (yah _) ?_;have hn:(zi0 w a ep es)[es.size]?=none:=yb1 (by rw [zd3];exact yah _);rw [hn];show wpAny _ _ (setField (.ref it) 2 .none >>= _) _ _ s;refine yaa (wpAny_setField ho hd (by simp) ?_);show wpAny _ _ (newExc (.type "StopIteration") [] >>= _) _ _ _;refine yaa ?_;simp only [newExc,newTuple];refine yaa (yaR ?_ (by size_fits));refine yaa (m:=firstArgMember _ _) (ybi (a:=Value.none) (by first | rfl | (simp only [firstArgMember];rfl)) ?_);refine yaR ?_ (by size_fits);simp only [raiseNew];refine yaa (wpAny_handled ?_);rw [show A.in1.handled=none from hh];refine yaa (yac (wpAny_throw ?_));refine yaa (ybE (T:="StopIteration") (b:=true) ⟨_,yak _ rfl,rfl⟩ isSubtype_stop ?_);exact yac (hQ _ (((Heap.SameBut.update ..).extBut.push _).push _))
def zi3(hh:A.handled=none)(I:Addr)(hne:a≠I):Walks prog w A I [I,a] [I] es.size (fun i v=>∃e,(zi0 w a ep es)[i]?=some e/\e.2=v) (fun i h=>zmM h I a (slN w (zae ks) i) i es.size ep/\SAt w h a ks es ep t) where
 sub:=fun b hb=>by simp at hb;simp [hb]
 frame:=fun _ _ _ st hk=>⟨st.1.at fun o e=>hk I (by simp) o e,st.2.at fun o e=>hk a (by simp) o e⟩
 item:=fun i s Q E hi st hQ=>by
  obtain ⟨e,hx⟩:∃e,(zi0 w a ep es)[i]?=some e:=⟨_,ya1 (by rw [zd3];exact hi)⟩;refine zn5 st.1 st.2 hx fun h' hit' hs'=>?_
  exact hQ e.2 h' s.toks ⟨e,hx,rfl⟩ ⟨hit',st.2.at fun o e=>hs'.extBut a o hne e⟩ fun b o hb e=>hs'.extBut b o (fun h=>hb (by simp [h])) e
 done:=fun s Q E st hQ=>zqj hh st.1 st.2 fun h' he'=>hQ h' s.toks fun b o hb e=>he' b o (fun h=>hb (by simp [h])) e
 self:=fun i s Q E st hQ=>by
  refine ydj st.1.typeIs zdH (yaS zdH st.1.typeIs zfF ?_ (zgM _));show wpAny _ _ (ret (.ref I)) _ _ s;exact yac ⟨_,rfl,"set_iterator",_,st.1.typeIs,za4.lookup,hQ⟩
end
end ST
namespace ST
open PySem PySem.Spec PySem.W PyProof.Rows
section
variable{prog:Program}{w:World}{A:Around}{E:Z5}{s:Shared}{a:Addr}{ks:List Int}{es:Array (Int×Value)}{ep:Nat}{t:SetTable}
def zmg{r:Addr}{Q:Bool->Shared->Prop}(hT:s.TypeIs (.ref r) "set")(h:Q false s):wpAny (model prog w) A (Builtin.List.listLengthHint (.ref r)) Q E s:=by
 unfold Builtin.List.listLengthHint;refine yaa (ybC hT PySem.F.slot_set_len.lookup ?_);generalize hid:("set.__len__":String)=id0
 wp_delta
 rw [show splitId id0=some ("set","__len__") from by subst hid;decide +kernel];subst hid;refine yaa (ybE (T:="set") (b:=true) hT (by rw [ybn];kernel_rfl) ?_);refine ycu (fun hab=>absurd hab (by decide)) (fun _=>?_);refine ycu (fun _=>?_) (fun hab=>absurd (by decide +kernel) hab);refine yaa (ybH hT ?_);exact yac h
def SAt.typeIs(x:SAt w s.heap a ks es ep t):s.TypeIs (.ref a) "set":=let ⟨⟨o,ho,hx,_⟩,_⟩:=x;⟨o,ho,hx.1⟩
def SAt.lt{h:Heap}(x:SAt w h a ks es ep t):a<h.objs.size:=let ⟨⟨_,ho,_⟩,_⟩:=x;yan ho
def zoU:KdlSrc prog w "set" a a es.size (fun i v=>∃e,(zi0 w a ep es)[i]?=some e/\e.2=v) (fun h=>SAt w h a ks es ep t) where
 type:=fun _ x=>x.typeIs
 there:=fun _ x=>⟨x.lt,x.lt⟩
 keep:=fun _ _ x hk=>x.at fun o e=>hk a (.inl rfl) o e
 notList:=by decide
 notTuple:=by decide
 hint:=fun _ _ _ _ x hq=>zmg x.typeIs hq
 iter:=fun A s hh x=>⟨_,_,(fun _ _ hq=>zjm x hq),zi3 hh _ (yar x.lt),by
  refine ⟨⟨_,yak _ rfl,rfl,?_⟩,x.at fun o e=>yae _ e⟩
  have:slN w (zae ks) 0=0:=by unfold slN;split<;>rfl
  rw [this];rfl⟩
def zio{Q:Z5}(hh:A.handled=none)(S:ISet w s.heap a ks)
  (h:∀(hm h':Heap) (tk e:Nat) (vs:List Value),(∀b o,s.heap.get? b=some o->hm.get? b=some o)->(∀b o,hm.get? b=some o->h'.get? b=some o)->h'.get? hm.objs.size=some (seqObj "list" vs.toArray e)->IntsAre vs (zae ks)->Q (.ref hm.objs.size) { s with heap:=h',toks:=tk }) :
  wpAny (model prog w) A (call (.builtin "sorted") [.ref a]) Q E s:=by
 obtain ⟨es,ep,t,x⟩:=S.sat;have h4:=x.2.2.2.2.2.2
 have hz:es.size=(zae ks).length:=by rw [<-yaB,h4.len]
 have h8:=zau (ks:=ks);refine ycj kind_sorted plain_sorted entry_sorted (args_sorted1 _) ?_;unfold Builtin.«sorted»;refine yaa (m:=checkCount "sorted" 1 1 _) (yac ?_);refine yaa (kdu_collect (A:=A.in1) (zoU (prog:=prog)) hh x (by rw [hz];exact yaq h8 (by decide)) fun h' tk acc hk hacc=>?_)
 have hl:acc.toList.length=es.size:=by rw [yaB];exact hacc.1
 refine yaa (ycV ?_ (by rw [hl,hz];exact yaq h8 (by decide)));have hoL:(h'.push (seqObj "list" acc.toList.toArray 0)).get? h'.objs.size=some (seqObj "list" acc.toList.toArray 0):=yak _ rfl
 have hv:acc.toList=(zi0 w a ep es).toList.map (·.2):=by
  apply yby;intro i;rw [yas,ybe,ybe]
  rcases ydd i es.size with z | z
  ·have z':i<acc.size:=by rw [hacc.1];exact z
   obtain ⟨e,e1,e2⟩:=hacc.2 i acc[i] (ya1 z');rw [ya1 z',e1];show some acc[i]=some e.2;rw [e2]
  ·rw [yb1 (by rw [hacc.1];exact z),yb1 (by rw [zd3];exact z)];rfl
 obtain ⟨ns,hns,hp⟩:∃ns,IntsAre acc.toList ns/\ns.Perm (zae ks):=by
  have go:∀l:List (Int×Value),(∀e∈l,∃k tk,e=(k,Value.int k tk))->IntsAre (l.map (·.2)) (l.map (·.1)):=by
   intro l
   induction l with
   | nil=>intro _;exact .nil
   | cons e l ih =>
    intro hm;obtain ⟨k,tk,rfl⟩:=hm e yaD;exact .cons k tk (ih fun e he=>hm e (yaw _ he))
  refine ⟨(zi0 w a ep es).toList.map (·.1),?_,?_⟩
  ·rw [hv]
   exact go _ fun e he=>by
    obtain ⟨k,tk,_,z⟩:=h4.mem (zfp.mem_iff.mp he);exact ⟨k,tk,z⟩
  ·have:=(zfp (w:=w) (a:=a) (ep:=ep) (es:=es)).map (·.1);rwa [h4.hashes] at this
 refine yaa (yaW (yaS slot_list_sort ⟨_,hoL,rfl⟩ entry_list_sort (list_sort_tree (s:={ s with heap:=h'.push (seqObj "list" acc.toList.toArray 0),toks:=tk }) hoL hns (by rw [hl,hz];omega) fun out ns' a1 a2 a3=>⟨_,rfl,?_⟩) (args_list_sort _)));refine yac ⟨_,rfl,?_⟩;obtain ⟨e,he⟩:=sortedHeap_at (out:=out) hoL;have en:ns'=zae ks:=lks_uniq (a2.trans hp) a3 (List.Pairwise.imp (fun {a b} h=>by omega) zbc);refine h h' _ tk e out.toList hk (fun b o hb=>?_) (by simpa using he) (by rw [<-en];exact a1);have hlt:b<h'.objs.size:=yan hb;rw [sortedHeap_old (yar hlt) (by rw [size_push'];exact ya0 hlt)];exact yae _ hb
end
end ST
namespace L2
open PySem PySem.Spec PyProof.Rows
section
variable{X:Cx}
noncomputable def zih(w:World)(a:Addr)(ks:List Int)(h:Heap):Prop:=ST.ISet w h a ks
theorem zdP:∀{ns:List Int} {vs:List Value},Vals (ns.map V.int) vs->IntsAre vs ns
 | [],_,r=>by rw [List.map_nil] at r;cases r;exact .nil
 | n::ns,_,r=>by
  rw [yau] at r
  cases r with
  | cons h t =>
   obtain ⟨u,e⟩:=(show ∃t,_=Value.int n t from h);subst e;exact .cons n u (zdP t)
def zfR{ns:List Int}{vs:List Value}(h:IntsAre vs ns):Vals (ns.map V.int) vs:=by
 induction h with
 | nil=>exact .nil
 | cons n t _ ih=>exact .cons ⟨t,rfl⟩ ih
def zfL(hc:X.calm=true):zc2 X (.type "set") (fun xs H Q=>∃(p:Addr) (ns:List Int),xs=[.ref p]/\SqL X.K H p (ns.map V.int)/\(∀k∈ns,0<=k/\k<8)/\∀l,H l=none->Q (.ref l) (upd H l (.ext (zih X.w l ns)))):=by
 intro pins s σ H xs us Q I r h;obtain ⟨p,ns,rfl,hq,hs,q⟩:=h;obtain ⟨u,rfl,rx⟩:=zeG r;cases rx;obtain ⟨its,rv,pl,hz⟩:=I.list hq;refine zkS (I.ok.hd hc) pl.isList (by simpa using zdP rv) hs fun h' tk S kp=>?_
 refine ⟨.ref s.heap.objs.size,_,I.laid (t':=tk) (o:=.ext (zih X.w s.heap.objs.size ns)) kp (yah _) ?_,rfl,q _ (I.hok.fresh (yah _))⟩;refine ⟨S,?_,fun h1 h2 x k=>ST.ISet.keep x k⟩;obtain ⟨o,_,_,_,e,_⟩:=S.ex;exact ⟨o,e⟩
def zeA(hc:X.calm=true):zc2 X (.builtin "sorted") (fun xs H Q=>∃(a:Addr) (ns:List Int),xs=[.ref a]/\H a=some (.ext (zih X.w a ns))/\∀l,H l=none->Q (.ref l) (upd H l (.lst ((ST.zae ns).map V.int)))):=by
 intro pins s σ H xs us Q I r h;obtain ⟨a,ns,rfl,ha,q⟩:=h;obtain ⟨u,rfl,rx⟩:=zeG r;cases rx;obtain ⟨S,_⟩:=I.hok a _ ha;refine ST.zio (I.ok.hd hc) S fun hm h' tk e vs k1 k2 hg hi=>?_
 have I1:=I.kept k1 (t':=tk);refine ⟨.ref hm.objs.size,_,I1.laid (h':=h') (t':=tk) (o:=.lst ((ST.zae ns).map V.int)) k2 (yah _) (show za3 X.prog X.w _ h' _ (.lst _) from ⟨?_,vs,e,zfR hi,hg⟩),rfl,q _ (I1.hok.fresh (yah _))⟩;rw [yaf];exact yaq ST.zau (by decide)
end
end L2
namespace S2
open PySem PySem.Spec PyProof.Rows L2
noncomputable def zgV:D->Option D | .lst l=>(zbZ l).bind fun ns=>if ns.all (fun k=>decide (0<=k/\k<8)) then some (.lst ((ST.zae ns).map D.int)) else none | _=>none
section
variable{X:Cx}{cl:Cf}{E:St->XK}{e:Expr}{f:Fe}{pos:Pos}
theorem zf7{w:Wd}:∀{l:List Int},Shds cl w (l.map V.int) (l.map D.int)
 | []=>.nil
 | i::l=>.cons (.int i) (zf7 (l:=l))
def zoa{p p2 pos2:Pos}(hc:X.calm=true)(hK:X.K=cl.K)(hg:Gl X "sorted")(hm:X.mg "sorted" = none)(hg2:Gl X "set")(hm2:X.mg "set" = none)(he:PE X e (tE cl E f))(hs:starEach [e] X.env=[(false,eval e X.env)]) :
  PE X (.Call (.Name "sorted" p) [.Call (.Name "set" p2) [e] [] pos2] [] pos) (tN cl E (eUn zgV f)):=by
 refine PE.imp (zdc (zeA hc) hg hm (by decide +kernel) (za9 (zdb (zfL hc) hg2 hm2 (by decide +kernel) (zbO he zdI hs) (he:=hs) (hpl:=rfl)) zch)) ?_;rintro σ H Q ⟨B,w,ρ,S,rfl,R,q⟩;refine ⟨B,w,ρ,S,rfl,R,?_⟩;unfold eUn at q
 cases hf:f ρ S with
 | bad=>rw [hf] at q;exact q.elim
 | exc c S1=>rw [hf] at q;simp only [zah,hf,Out.bind];exact q
 | ok d S1 =>
  rw [hf] at q;simp only [zah,hf,Out.bind];intro vs w1 R1 F1 sh;dsimp only [Out.bind] at q
  cases d with
  | lst l =>
   cases hk:zbZ l with
   | none=>simp [zgV,hk,Out.of] at q
   | some ns =>
    by_cases h8:ns.all (fun k=>decide (0<=k/\k<8))=true
    ·simp only [zgV,hk,Option.bind,h8,yb4] at q
     cases sh with
     | cons h1 hn =>
      cases hn
      cases h1 with
      | lst ep k r =>
       have er:=zgt r hk;subst er;refine ⟨_,ns,rfl,SqL.of ep,fun k hk=>yaj (ybk.mp h8 k hk),fun l hl=>⟨l,ns,rfl,zam,fun l2 hl2=>?_⟩⟩;exact q l2 _ (w1.add l (.ext (zih X.w l ns))) (R1.grow (zan hl _)) (F1.trans (zan hl _).fut) hl2 (.lst zf7)
    ·rw [Bool.not_eq_true] at h8;simp only [zgV,hk,Option.bind,h8,yax,ybm] at q;exact q.elim
  | _=>exact q.elim
end
end S2
namespace PySem
open Sem (wp)
namespace F
def zgo:typeLookup (.type "list") "keys" = pure none:=by rw [ybr,yaY];kernel_rfl
end F
section
variable{prog:Program}{w:World}{A:Around}{E:Z5}{s:Shared}{a:Addr}{o:Obj}
def zkb{xs:Array Value}{k:Nat}{sl:Array (Option Value)}{Q:Option Value->Shared->Prop}(hx:s.heap.get? a=some { cls:=.type "list",dict:=none,data:=.seq xs k,slots:=sl })(hA:A.handled=none)
  (h:∀h' tk,(∀b o,s.heap.get? b=some o->h'.get? b=some o)->Q none { s with heap:=h',toks:=tk }) :
  wpAny (model prog w) A (getAttr? (.ref a) "keys") Q E s:=by
 obtain ⟨hp,g,d,tk,os⟩:=s;have hT:∀tk',(⟨hp,g,d,tk',os⟩:Shared).TypeIs (.ref a) "list":=fun _=>⟨_,hx,rfl⟩
 have f1:=sub_AttributeError;have f3:=ycr.lookup;have f4:=ycr.bind (.ref a);have f5:=am_list_getattr_none;unfold getAttr? getAttrBy? getAttrBy
 repeat (any_goals (first | assumption | exact hT _ | ((with_reducible show wpAny _ _ (call (Value.builtin "list.__getattribute__") _ _) _ _ _);refine ycc ycr (hT _) am_entry_list_getattribute (F.args_list_getattribute_2 _ _) (meets_getattribute_miss_list a xs k sl "keys" _ F.zgo (by decide)) ⟨hx,hA,fun h' tk' e hx'=>?_⟩) | wp_step))
 obtain ⟨t',u',he⟩:=hx'.there;show wpAny _ _ (getattributeRaised _ _ _ _ _ _ _) _ _ _;unfold getattributeRaised
 repeat (any_goals (first | assumption | wp_step))
 exact h _ _ fun b o e=>hx'.keeps b o e
end
namespace F
def zbe:entryFor table "dict.update.loop" = some Builtin.«dict.update.loop»:=ycQ (by kernel_rfl)
def zav:plainId "dict.update.loop" = true:=by decide +kernel
end F
end PySem
namespace ST
open PySem PySem.Spec PyProof.Rows
section
variable{prog:Program}{w:World}{K:Type}[DecidableEq K]{knd:KeyKind prog w K}{A:Around}{R:Result->Shared->Prop}{I:Addr}{fp wr:List Addr}{G:Array GenState->Array GenState->Prop}{n:Nat}{P:Nat->Value->Prop}{St:Nat->Shared->Prop}
noncomputable def zm4(ks:Nat->K)(vf:Nat->Value)(i:Nat):List (K×Value):=(List.range i).foldl (fun acc j=>stored acc (ks j) (vf j)) []
def zef{ks:Nat->K}{vf:Nat->Value}{i:Nat}:zm4 ks vf (i+1)=stored (zm4 ks vf i) (ks i) (vf i):=by
 unfold zm4;rw [yb9,List.foldl_append];rfl
theorem zhH{ks:Nat->K}{vf:Nat->Value}:∀{i:Nat},(zm4 ks vf i).length<=i
 | 0=>yah _
 | i+1=>by
  rw [zef];refine yaq ?_ (Nat.succ_le_succ (zhH (ks:=ks) (vf:=vf) (i:=i)));unfold stored;split
  ·rw [yaf];exact ybu _
  ·rw [yav];exact yah _
def zkH(W:WalksS prog w A.in1 I fp wr G n P St)(S:Addr)(hSf:S ∉ fp)(T:Nat->Addr)(ks:Nat->K)(kf vf:Nat->Value)(hval:∀i v,P i v->v=.ref (T i))(hk:∀i,i<n->knd.is (ks i) (kf i)=true)(hT:∀i,i<n->T i ∉ S::wr)(hn:n<=sizeLine) :
  ∀(k i:Nat) (tk:Tok) (s:Shared),n-i=k->i<=n->St i s->s.heap.DictOf knd S (zm4 ks vf i)->(∀i,i<n->s.heap.IsTuple (T i) #[kf i,vf i]) →
   (∀s',Moved (S::wr) G s s'->s'.heap.DictOf knd S (zm4 ks vf n)->R (.ok (.ret .none)) s') →
   codeAny (model prog w) A (.builtin "dict.update.loop" ⟨[.ref S,.ref I,.int i tk,.none],[]⟩) R s:=by
 have hSw:S ∉ wr:=fun h=>hSf (W.sub _ h)
 have hsub:∀b∈wr,b∈S::wr:=fun b hb=>yaw _ hb
 intro k
 induction k with
 | zero =>
  intro i tk s hk' hi hst hS hTs hR
  have hin:i=n:=by omega
  subst hin;refine ybs PySem.F.zbe ?_;rw [ya8 PySem.F.zav _];show wpAny _ A.in1 (pyNext (.ref I) >>= _) _ _ s;refine yaa (W.done s _ _ hst fun s' hm=>?_);show wpAny _ A.in1 (Builtin.Dict.addKeywords S [] >>= _) _ _ s';exact yaa (yac (yac (hR s' (hm.mono hsub) (hS.at fun o ho=>hm.heap S _ hSw ho))))
 | succ k ih =>
  intro i tk s hk' hi hst hS hTs hR
  have hlt:i<n:=by omega
  refine ybs PySem.F.zbe ?_;rw [ya8 PySem.F.zav _];show wpAny _ A.in1 (pyNext (.ref I) >>= _) _ _ s;refine yaa (W.item i s _ _ hlt hst fun v s' hP hst' hm=>?_);obtain rfl:=hval i v hP
  have hTs':∀i,i<n->s'.heap.IsTuple (T i) #[kf i,vf i]:=fun i hi=>by
   obtain ⟨o,ho,r⟩:=hTs i hi;exact ⟨o,hm.heap _ _ (fun z=>hT i hi (hsub _ z)) ho,r⟩
  have hS':=hS.at (h':=s'.heap) fun o ho=>hm.heap S _ hSw ho
  refine yaa (yaW (yaa ?_));refine wpAny_tryCatch ?_;unfold Builtin.Dict.pairItems;obtain ⟨ot,hot,hct,nt,hdt⟩:=hTs' i hlt;have hTy:s'.TypeIs (.ref (T i)) "tuple":=⟨ot,hot,hct⟩;refine yaa (ybH hTy ?_);rw [if_pos (by decide)];refine yaa (ycK hot hdt (yac ?_));show wpAny _ _ (holding [kf i,vf i] (dictSet S (kf i) (vf i))) _ _ _;refine yaW (wpAny_dictSet_pairs (hk i hlt) hS' (fun h' hd hsb=>?_) (yaq zhH (by omega)));rw [<-zef] at hd;refine yac ⟨yce PySem.F.zav _,?_⟩;refine ih (i+1) _ _ (by omega) hlt (W.frame _ s' _ _ hst' (ybu _) fun b hb o e=>?_) hd (fun j hj=>?_) fun s'' hm'' hS''=>?_
  ·rw [hsb.2 b (fun h:b=S=>hSf (by rw [<-h];exact hb))];exact e
  ·obtain ⟨o,ho,r⟩:=hTs' j hj;exact ⟨o,(hsb.2 _ (fun z=>hT j hj (by rw [z];exact yaD))).trans ho,r⟩
  ·refine hR s'' (Moved.trans W.gtrans ((hm.mono hsub).then_heap (ybu _) fun b o hb e=>?_) hm'') hS'';rw [hsb.2 b (fun h:b=S=>hb (by rw [h];exact yaD))];exact e
end
end ST
namespace PySem
section
variable{prog:Program}{w:World}{K:Type}[DecidableEq K]{knd:KeyKind prog w K}{A:Around}{E:Z5}{s:Shared}
def ziS{l:Addr}{items:Array Value}{Q:Z5}(T:Nat->Addr)(ks:Nat->K)(kf vf:Nat->Value)(hh:A.handled=none){kl:Nat}{sl:Array (Option Value)}(hl:s.heap.get? l=some { cls:=.type "list",dict:=none,data:=.seq items kl,slots:=sl })
  (hi:∀(i:Nat) (v:Value),items[i]?=some v->v=.ref (T i)) (hk:∀i,i<items.size->knd.is (ks i) (kf i)=true) (hT:∀i,i<items.size->s.heap.IsTuple (T i) #[kf i,vf i]) (hn:items.size<=sizeLine)
  (h:∀(h':Heap) (tk:Nat),h'.DictOf knd s.heap.objs.size (ST.zm4 ks vf items.size)->(∀b o,s.heap.get? b=some o->h'.get? b=some o)->Q (.ref s.heap.objs.size) { s with heap:=h',toks:=tk }) :
  wpAny (model prog w) A (call (.type "dict") [.ref l]) Q E s:=by
 refine callType_codes (Q₁:=fun obj s₁=>obj=.ref s.heap.objs.size/\s₁={ s with heap:=s.heap.push { cls:=.type "dict",data:=.dict #[] } }) F.kt_called_dict (F.kt_typeCall_dict_1 _) F.entry_dict_init (kt_code_dict_new _ ⟨rfl,rfl⟩) ?_;rintro obj s₁ ⟨rfl,rfl⟩;generalize hG:s.heap.push { cls:=.type "dict",data:=.dict #[] }=G;have hnew:G.DictOf knd s.heap.objs.size []:=hG ▸ Heap.DictOf.new s.heap;have upG:∀b o,s.heap.get? b=some o->G.get? b=some o:=fun b o e=>hG ▸ yae _ e
 have hl':=upG _ _ hl;refine ⟨hnew.typeIs,F.args_dict_init_2 _ _,?_⟩;unfold Builtin.«dict.__init__»;refine yaa ?_;unfold Builtin.Dict.selfAndRest;refine yaa (wpAny_notOrdered_dict hnew.typeIs ?_);show wpAny _ _ (pure (s.heap.objs.size,[Value.ref l])) _ _ _;refine yac ?_;show wpAny _ _ (Builtin.Dict.updateFrom "dict.__init__" s.heap.objs.size (.ref l) [] .none) _ _ _;unfold Builtin.Dict.updateFrom;refine yaa (ybH (T:="list") ⟨_,hl',rfl⟩ ?_);rw [if_pos (by decide)];refine yaa (zkb hl' (by simp [hh]) fun h₁ tk₁ k₁=>?_);refine yaa (yco ?_);have hl1:h₁.IsList l items:=⟨_,k₁ _ _ hl',rfl,_,rfl⟩;refine yaa (ycb hl1 ?_);have hlS:l<s.heap.objs.size:=yan hl
 have hS1:s.heap.objs.size<h₁.objs.size:=by
  obtain ⟨o,_,_,ho,_⟩:=hnew;exact yan (k₁ _ _ ho)
 have hh3:A.in1.in1.handled=none:=by simp [hh]
 have hneI:l≠h₁.objs.size:=yar (yc9 hlS hS1);have kP:∀b o,s.heap.get? b=some o->∀o',(h₁.push o').get? b=some o:=fun b o e o'=>yae _ (k₁ _ _ (upG _ _ e))
 refine yac ⟨yce F.zav _,?_⟩;refine ST.zkH ((Walks.list hh3 _ l hneI items).toS) s.heap.objs.size ?_ T ks kf vf hi hk (fun i hi=>?_) hn (items.size-0) 0 _ _ (by omega) (yaL _) ⟨⟨_,yak _ rfl,rfl,rfl⟩,(hl1.push _)⟩ ?_ (fun i hi=>?_) ?_
 ·simp only [yat,yaJ,ya7,ycL,not_or];exact ⟨yar hS1,ybj hlS⟩
 ·obtain ⟨o,ho,_⟩:=hT i hi;have:=yan ho;simp only [yat,yaJ,ya7,ycL,not_or];exact ⟨yar this,yar (yc9 this hS1)⟩
 ·exact (hnew.at fun o e=>yae _ (k₁ _ _ e))
 ·obtain ⟨o,ho,r⟩:=hT i hi;exact ⟨o,kP _ _ ho _,r⟩
 ·intro s' hm hS';obtain ⟨h',g',d',tk',os'⟩:=s';have eg:g'=s.gens:=hm.gens;have ed:d'=s.drawn:=hm.drawn;have eo:os'=s.os:=hm.os;subst eg;subst ed;subst eo;refine ⟨rfl,h h' tk' hS' fun b o e=>?_⟩;have hb1:b≠s.heap.objs.size:=yar (yan e);have hb2:b≠h₁.objs.size:=yar (yc9 (yan e) hS1);exact hm.heap b o (by simp only [yat,yaJ,ya7,ycL,not_or];exact ⟨hb1,hb2⟩) (kP _ _ e _)
end
end PySem
namespace L2
open PySem PySem.Spec PyProof.Rows
section
variable{κ:Type}[DecidableEq κ]
def KV.val{kvs:List (κ×V)}{vs:List (κ×Value)}(r:KV kvs vs)(k:κ):zgP (zc3 kvs k) (valueAt vs k):=by
 unfold KV at r
 induction r with
 | nil=>exact True.intro
 | @cons p q ps qs h t ih =>
  obtain ⟨h1,h2⟩:=h
  by_cases e:p.1=k
  ·have e':q.1=k:=h1.symm.trans e
   have b:valueAt (q::qs) k=some q.2:=by simp [valueAt,ybh,e']
   rw [zaZ e,b];exact h2
  ·have e':¬ q.1=k:=fun z=>e (h1.trans z)
   have b:valueAt (q::qs) k=valueAt qs k:=by simp [valueAt,ybh,e']
   rw [za0 e,b];exact ih
theorem KV.any{kvs:List (κ×V)}{vs:List (κ×Value)}(r:KV kvs vs)(k:κ):(kvs.any fun kv=>decide (kv.1=k))=vs.any fun kv=>decide (kv.1=k):=by
 unfold KV at r
 induction r with
 | nil=>rfl
 | cons h t ih=>rw [ydm,ydm,ih,h.1]
def KV.repl{kvs:List (κ×V)}{vs:List (κ×Value)}(r:KV kvs vs)(k:κ){y:V}{u:Value}(ry:zaE y u) :
  KV (kvs.map fun kv=>if kv.1=k then (kv.1,y) else kv) (vs.map fun kv=>if kv.1=k then (kv.1,u) else kv):=by
 unfold KV at r ⊢
 induction r with
 | nil=>exact .nil
 | @cons p q ps qs h t ih =>
  rw [yau,yau];refine .cons ?_ ih;obtain ⟨h1,h2⟩:=h
  by_cases e:p.1=k
  ·rw [if_pos e,if_pos (h1.symm.trans e)];exact ⟨h1,ry⟩
  ·rw [if_neg e,if_neg (fun z=>e (h1.trans z))];exact ⟨h1,h2⟩
def KV.put{kvs:List (κ×V)}{vs:List (κ×Value)}(r:KV kvs vs)(k:κ){y:V}{u:Value}(ry:zaE y u):KV (zdW kvs k y) (stored vs k u):=by
 unfold zdW stored;rw [r.any k]
 by_cases e:(vs.any fun kv=>decide (kv.1=k))=true
 ·rw [if_pos e,if_pos e];exact r.repl k ry
 ·rw [if_neg e,if_neg e];exact Paired.snoc r ⟨rfl,ry⟩
end
section
variable{P:Program}{w:World}{H:Hp}{h:Heap}{a:Addr}
def ziM{kvs:List (Key×V)}(ok:HOk P w H h)(e:Rd H a (.dK kvs)):kvs.length<=sizeLine/\(a == sysModules)=false/\∃vs,KV kvs vs/\h.DictOf (zaS P w) a vs :=
 show za3 P w H h a (.dK kvs) from zqK ok e
end
noncomputable def zjf:List (TE×TE)->St->Hp->(List (V×V)->Hp->Prop)->Prop
 | [],_,H,Q=>Q [] H
 | (tk,tv)::r,σ,H,Q=>tk σ H fun x H1=>tv σ H1 fun y H2=>zjf r σ H2 fun ps H3=>Q ((x,y)::ps) H3
noncomputable abbrev VV:List (V×V)->List (Value×Value)->Prop:=Paired fun p q=>zaE p.1 q.1/\zaE p.2 q.2
noncomputable def PPs(X:Cx)(pos:Pos)(keys:List (Option Expr))(values:List Expr)(trs:List (TE×TE)):Prop :=
 ∀(pins:Z3) (s:Shared) (σ:St) (H:Hp) (Q:List (V×V)->Hp->Prop),Inv X pins σ H s->zjf trs σ H Q →
  wpAny (model X.prog X.w) X.A (evalPairs (pairTrees keys values X.env pos)) (fun vs s'=>∃ps H',Inv X pins σ H' s'/\VV ps vs/\Q ps H') X.xe s
def zoq{X:Cx}{pos:Pos}:PPs X pos [] [] []:=fun pins s σ H Q I h=>pairTrees_nil_walk ⟨[],H,I,.nil,h⟩
def zhK{X:Cx}{pos:Pos}{k v:Expr}{ks:List (Option Expr)}{vs:List Expr}{tk tv:TE}{trs:List (TE×TE)}(hk:PE X k tk)(hv:PE X v tv)(hr:PPs X pos ks vs trs) :
  PPs X pos (some k::ks) (v::vs) ((tk,tv)::trs):=fun pins s σ H Q I h =>
 pairTrees_cons_walk (thn (hk pins s σ H _ I h) fun u s1 ⟨x,H1,I1,rx,q1⟩=>thn (hv pins s1 σ H1 _ I1 q1) fun w2 s2 ⟨y,H2,I2,ry,q2⟩ =>
  thn (hr pins s2 σ H2 _ I2 q2) fun ws s3 ⟨ps,H3,I3,rel,q3⟩=>⟨(x,y)::ps,H3,I3,.cons ⟨rx,ry⟩ rel,q3⟩)
end L2
namespace L2
open PySem PySem.Spec PyProof.Rows
section
variable{X:Cx}
noncomputable def kvL(ps:List (Int×Int)):List (Key×V):=ps.foldl (fun acc p=>zdW acc (.inl p.1) (.int p.2)) []
noncomputable def zoP(ps:List (Int×Int))(k:Int):Option Int:=ps.foldl (fun acc p=>if k=p.1 then some p.2 else acc) none
theorem znj(k:Int):∀(ps:List (Int×Int)) (acc:List (Key×V)) (o:Option Int),zc3 acc (.inl k)=o.map V.int->zc3 (ps.foldl (fun acc p=>zdW acc (.inl p.1) (.int p.2)) acc) (.inl k)=(ps.foldl (fun acc p=>if k=p.1 then some p.2 else acc) o).map V.int
 | [],_,_,h=>h
 | p::ps,acc,o,h=>by
  rw [ycZ,ycZ];refine znj k ps _ _ ?_;rw [ze9]
  by_cases e:k=p.1
  ·rw [if_pos (congrArg Sum.inl e),if_pos e];rfl
  ·rw [if_neg (fun z=>e (Sum.inl.inj z)),if_neg e];exact h
def zoR{ps:List (Int×Int)}{k:Int}:zc3 (kvL ps) (.inl k)=(zoP ps k).map V.int:=znj k ps [] none rfl
def zoS{ps:List (Int×Int)}:(kvL ps).length<=ps.length:=by
 have go:∀(ps:List (Int×Int)) (acc:List (Key×V)),(ps.foldl (fun acc p=>zdW acc (.inl p.1) (.int p.2)) acc).length<=acc.length+ps.length:=by
  intro ps
  induction ps with
  | nil=>intro acc;exact yah _
  | cons p ps ih =>
   intro acc;have h1:=ih (zdW acc (.inl p.1) (.int p.2));have h2:=zb5 acc (.inl p.1:Key) (.int p.2);rw [ycZ,yap];omega
 have:=go ps [];rwa [List.length_nil,Nat.zero_add] at this
def zeB(hc:X.calm=true):zc2 X (.type "dict") (fun xs H Q=>∃(p:Addr) (qs:List Addr) (ps:List (Int×Int)),xs=[.ref p]/\SqL X.K H p (qs.map V.ref)/\qs.length=ps.length/\(∀(i:Nat) q c,qs[i]?=some q->ps[i]?=some c->SqT X.K H q [.int c.1,.int c.2])/\∀l,H l=none->Q (.ref l) (upd H l (.dK (kvL ps)))):=by
 intro pins s σ H xs us Q I r h;obtain ⟨p,qs,ps,rfl,hq,hn,ht,q⟩:=h;obtain ⟨u,rfl,rx⟩:=zeG r;cases rx;obtain ⟨its,rv,pl,hz⟩:=I.list hq
 have hl:its.length=ps.length:=by rw [<-rv.length,yaf];exact hn
 have hz':ps.length<=sizeLine:=by rwa [yaf,hn] at hz
 obtain ⟨o,kl,ho,hc1,hc2,hc3⟩:=pl;obtain ⟨c,dc,dt,sl⟩:=o;simp only at hc1 hc2 hc3;subst hc1 hc2 hc3
 have hch:∀i:Nat,∃kv:Value×Value,i<ps.length->s.heap.IsTuple (qs.getD i 0) #[kv.1,kv.2]/\zaE (.int (ps.getD i (0,0)).1) kv.1/\zaE (.int (ps.getD i (0,0)).2) kv.2:=by
  intro i
  by_cases hi:i<ps.length
  ·have e1:qs[i]?=some (qs.getD i 0):=by rw [yai,yad (by omega)];rfl
   have e2:ps[i]?=some (ps.getD i (0,0)):=by rw [yai,yad hi];rfl
   obtain ⟨ts,rt,pt,_⟩:=I.tuple (ht i _ _ e1 e2)
   cases rt with
   | cons r1 rt =>
    cases rt with
    | cons r2 rt=>cases rt;exact ⟨(_,_),fun _=>⟨pt,r1,r2⟩⟩
  ·exact ⟨(.none,.none),fun z=>absurd z hi⟩
 obtain ⟨kv,hkv⟩:=Classical.axiomOfChoice hch
 have hits:∀(i:Nat) (v:Value),its.toArray[i]?=some v->v=.ref (qs.getD i 0):=by
  intro i v hv;rw [List.getElem?_toArray] at hv;have hi:i<its.length:=(yam.mp hv).1
  have e1:(qs.map V.ref)[i]?=some (.ref (qs.getD i 0)):=by rw [yas,yai,yad (by omega)];rfl
  obtain ⟨u,hu,ru⟩:=rv.get e1;rw [hu] at hv;cases hv;exact ru
 have hsz:its.toArray.size=ps.length:=by rw [yag];exact hl
 refine ziS (knd:=zaS X.prog X.w) (fun i=>qs.getD i 0) (fun i=>(.inl (ps.getD i (0,0)).1:Key)) (fun i=>(kv i).1) (fun i=>(kv i).2) (I.ok.hd hc) ho hits (fun i hi=>zkg (k:=.inl _) (hkv i (hsz ▸ hi)).2.1) (fun i hi=>(hkv i (hsz ▸ hi)).1) (hsz ▸ hz') fun h' tk D k=>?_
 have rel:∀i,i<=ps.length->KV (kvL (ps.take i)) (ST.zm4 (fun i=>(.inl (ps.getD i (0,0)).1:Key)) (fun i=>(kv i).2) i):=by
  intro i
  induction i with
  | zero=>intro _;exact .nil
  | succ i ih =>
   intro hi
   have e2:ps[i]?=some (ps.getD i (0,0)):=by rw [yai,yad (by omega)];rfl
   rw [ST.zef,List.take_succ,e2];unfold kvL;rw [List.foldl_append];exact (ih (by omega)).put _ (hkv i (by omega)).2.2
 have rel':=rel ps.length (yah _);rw [List.take_length] at rel';rw [hsz] at D;refine ⟨.ref s.heap.objs.size,_,I.laid (t':=tk) (o:=.dK (kvL ps)) k (yah _) ⟨yaq zoS hz',?_,_,rel',D⟩,rfl,q _ (I.hok.fresh (yah _))⟩;exact yc2 (ybj I.big)
noncomputable def zpX(td ty tx:TE):TE:=fun σ H Q=>td σ H fun x H1=>∃a kvs,x=.ref a/\H1 a=some (.dK kvs)/\ty σ H1 fun y H2=>tx σ H2 fun z H3=>∃k,y=kV k/\H3 a=some (.dK kvs)/\Q ((zc3 kvs k).getD z) H3
def zhM{o e f:Expr}{apos cpos:Pos}{td ty tx:TE}(ho:PE X o td)(he:PE X e ty)(hf:PE X f tx)(m:M2 X o "get" apos e f cpos):PE X (.Call (.Attribute o "get" apos) [e,f] [] cpos) (zpX td ty tx):=by
 intro pins s σ H Q I h;refine ydi m.base m.few m.line ycv yb7 PySem.F.type_dict_get (thn (ho pins s σ H _ I h) fun u s1 ⟨x,H1,I1,rx,a,kvs,ex,d,q1⟩=>?_);subst ex;obtain rfl:u=Value.ref a:=rx;obtain ⟨_,_,vs,_,dd⟩:=ziM I1.hok (.inl d);refine ⟨dd.typeIs,fun b q=>?_,?_⟩
 ·cases q;obtain ⟨ob,_,_,h1,h2,_⟩:=dd;exact ⟨ob,h1,h2.2.1⟩
 rw [m.trees]
 refine yb0 rfl (ycS (ybF (thn (he pins s1 σ H1 _ I1 q1) fun iv s2 ⟨y,H2,I2,ry,q2⟩ =>
  ybF (thn (hf pins s2 σ H2 _ I2 q2) fun fv s3 ⟨z,H3,I3,rz,k,ey,d3,q3⟩=>ycG ?_))))
 subst ey;obtain ⟨z',hd,vs3,rel,dd3⟩:=ziM I3.hok (.inl d3);exact call_meetsIn yb7 dd3.typeIs PySem.F.entry_dict_get (PySem.F.args_dict_get_3 _ _ _) (meets_dict_get_default (zaS X.prog X.w) a (zkg ry) hd fv) ⟨_,dd3.mapOf,_,_,I3.tok _,(rel.val k).getD rz,q3⟩
end
end L2
namespace S2
open PySem PySem.Spec PyProof.Rows L2
noncomputable def zm8:List D->Option (List (Int×Int))
 | []=>some []
 | .tup [.int a,.int b]::l=>(zm8 l).map ((a,b)::·)
 | _=>none
noncomputable def zvW:D->Option (List (Int×Int)) | .lst l=>zm8 l | _=>none
noncomputable def zuA(f g h:Fe):Fe:=fun ρ S=>(f ρ S).bind fun d S1=>match zvW d with
 | some ps=>(g ρ S1).bind fun k S2=>(h ρ S2).bind fun z S3=>(match k with | .int i=>.ok (((zoP ps i).map D.int).getD z) S3 | _=>.bad)
 | none=>.bad
section
variable{X:Cx}{cl:Cf}{E:St->XK}{e a b:Expr}{f g h:Fe}
theorem zeX{w:Wd}:∀{l:List D} {ps:List (Int×Int)} {xs:List V},zm8 l=some ps->Shds cl w xs l->∃qs:List Addr,xs=qs.map V.ref/\qs.length=ps.length/\∀(i:Nat) q c,qs[i]?=some q->ps[i]?=some c->w.H q=some (.tup [.int c.1,.int c.2])
 | [],ps,xs,e,r=>by
  cases e;cases r;exact ⟨[],rfl,rfl,fun i q c z=>by cases z⟩
 | .tup [.int a,.int b]::l,ps,xs,e,r=>by
  cases e1:zm8 l with
  | none=>rw [show zm8 (.tup [.int a,.int b]::l)=(zm8 l).map ((a,b)::·) from rfl,e1] at e;cases e
  | some ps' =>
   rw [show zm8 (.tup [.int a,.int b]::l)=(zm8 l).map ((a,b)::·) from rfl,e1] at e;cases e
   cases r with
   | cons r1 r2 =>
    obtain ⟨qs,rfl,hn,hp⟩:=zeX e1 r2
    cases r1 with
    | tup ep k rt =>
     cases rt with
     | cons t1 t2 =>
      cases t2 with
      | cons t2 t3 =>
       cases t3;cases t1;cases t2;refine ⟨_::qs,rfl,congrArg Nat.succ hn,fun i q c h1 h2=>?_⟩
       cases i with
       | zero=>cases h1;cases h2;exact ep
       | succ i=>exact hp i q c h1 h2
def zqx{p2 pos2 ap cp:Pos}(hc:X.calm=true)(hg2:Gl X "dict")(hm2:X.mg "dict" = none)(he:PE X e (tE cl E f))(ha:PE X a (tE cl E g))(hb:PE X b (tE cl E h))(hs:starEach [e] X.env=[(false,eval e X.env)])
  (m:M2 X (.Call (.Name "dict" p2) [e] [] pos2) "get" ap a b cp) :
  PE X (.Call (.Attribute (.Call (.Name "dict" p2) [e] [] pos2) "get" ap) [a,b] [] cp) (tE cl E (zuA f g h)):=by
 refine PE.imp (zhM (zdb (zeB hc) hg2 hm2 (by decide +kernel) (zbO he zdI hs) (he:=hs) (hpl:=rfl)) ha hb m) ?_;rintro σ H Q ⟨B,w,ρ,S,rfl,R,q⟩;refine ⟨B,w,ρ,S,rfl,R,?_⟩;unfold zuA at q
 cases hf:f ρ S with
 | bad=>rw [hf] at q;exact q.elim
 | exc c S1=>rw [hf] at q;simp only [zah,hf,Out.bind];exact q
 | ok d S1 =>
  rw [hf] at q;simp only [zah,hf,Out.bind];intro vs w1 R1 F1 sh;dsimp only [Out.bind] at q
  cases hk:zvW d with
  | none=>rw [hk] at q;exact q.elim
  | some ps =>
   rw [hk] at q;dsimp only at q
   cases d with
   | lst l =>
    cases sh with
    | cons h1 hn =>
     cases hn
     cases h1 with
     | lst ep k r =>
      obtain ⟨qs,rfl,hn,hp⟩:=zeX hk r;refine ⟨_,qs,ps,rfl,SqL.of ep,hn,fun i q c e1 e2=>SqT.of (hp i q c e1 e2),fun l2 hl2=>⟨l2,_,rfl,zam,?_⟩⟩;have gr:=zan (w:=w1) hl2 (.dK (kvL ps));have R2:=R1.grow gr;refine ⟨B,w1.add l2 (.dK (kvL ps)),ρ,S1,rfl,R2,?_⟩;have ha0:(w1.add l2 (.dK (kvL ps))).H l2=some (.dK (kvL ps)):=zam;have ow0:(w1.add l2 (.dK (kvL ps))).ow l2=none:=if_pos rfl
      cases hgv:g ρ S1 with
      | bad=>rw [hgv] at q;exact q.elim
      | exc c S2=>rw [hgv] at q;exact fun w2 Rw F2=>q w2 Rw (F1.trans (gr.fut.trans F2))
      | ok kd S2 =>
       rw [hgv] at q;dsimp only at q;intro y w2 Rw2 F2 sy;refine ⟨B,w2,ρ,S2,rfl,Rw2,?_⟩
       cases hhv:h ρ S2 with
       | bad=>rw [hhv] at q;exact q.elim
       | exc c S3=>rw [hhv] at q;exact fun w3 Rw F3=>q w3 Rw (F1.trans (gr.fut.trans (F2.trans F3)))
       | ok zd S3 =>
        rw [hhv] at q;dsimp only at q;intro z w3 Rw3 F3 sz
        cases kd with
        | int i =>
         cases sy;dsimp only at q;refine ⟨.inl i,rfl,((F2.trans F3).keep _ _ ha0 ow0).1,?_⟩;rw [zoR]
         cases hk2:zoP ps i with
         | none=>rw [hk2] at q;exact q z w3 Rw3 (F1.trans (gr.fut.trans (F2.trans F3))) sz
         | some n=>rw [hk2] at q;exact q (.int n) w3 Rw3 (F1.trans (gr.fut.trans (F2.trans F3))) (.int n)
        | _=>exact q.elim
   | _=>cases hk
end
end S2
namespace L2
open PySem PySem.Spec PyProof.Rows
section
variable{X:Cx}{pins:Z3}{σ:St}{s:Shared}{a b:Addr}{E:Z5}
def zmv{H:Hp}{kvs:List (List Key×V)}{k:List Key}{v:V}{r:Value}{Q:Unit->Shared->Prop}(hu:X.A.units+1<cLine)(I:Inv X pins σ H s)(e:H a=some (.dT kvs))(eb:H b=some (.tup (k.map kV)))(rv:zaE v r)(l:kvs.length<sizeLine)
  (h:∀s',Inv X pins σ (upd H a (.dT (zdW kvs k v))) s'->Q () s'):wpAny (model X.prog X.w) X.A (dictSet a (.ref b) r) Q E s:=by
 obtain ⟨z,hd,xs,rel,dd⟩:=zuC I.hok e
 have hz:xs.length<=sizeLine:=by rw [<-Paired.length rel];exact z
 have hl:(zdW kvs k v).length<=sizeLine:=by have:=zb5 kvs k v;omega
 refine wpAny_dictSet_heap (hsz:=hz) (show X.A.units<cLine by omega) (zkc I.hok eb) dd fun h' dd' hs=>h _ ?_
 obtain ⟨q,es,ep,hq,h2,h3,h4,_,h5⟩:=dd';refine zkI I (by rw [e];exact True.intro) hs ⟨q,hq⟩ ⟨hl,hd,_,(rel.put k eb rv).keeps fun c ys ec=>?_,q,es,ep,hq,h2,h3,h4,h5⟩;rw [zag (zrs ec e (fun z=>nomatch z))];exact ec
noncomputable def zcb(acc:List (List Key×V))(ps:List (List Key×Addr×V)):List (List Key×V):=ps.foldl (fun acc x=>zdW acc x.1 x.2.2) acc
theorem zmU(hu:X.A.units+1<cLine){Q:PUnit->Shared->Prop}:∀(ps:List (List Key×Addr×V)) (us:List (Value×Value)) (acc:List (List Key×V)) (H:Hp) (s:Shared),Inv X pins σ H s->H a=some (.dT acc)->(∀x∈ps,H x.2.1=some (.tup (x.1.map kV)))->VV (ps.map fun x=>(.ref x.2.1,x.2.2)) us->acc.length+ps.length<=1000 →
  (∀s',Inv X pins σ (upd H a (.dT (zcb acc ps))) s'->Q PUnit.unit s')->wpAny (model X.prog X.w) X.A (storeAll a us) Q E s
 | [],us,acc,H,s,I,e,_,rv,_,h=>by
  cases rv
  have eu:upd H a (.dT (zcb acc []))=H:=by
   funext b;unfold upd
   by_cases hb:b=a
   ·subst hb;rw [if_pos rfl,e];rfl
   ·rw [if_neg hb]
  rw [eu] at h;exact yac (h s I)
 | x::ps,us,acc,H,s,I,e,hk,rv,hl,h=>by
  rw [yau] at rv;rw [yap] at hl
  cases rv with
  | @cons p q ps' us' r1 r2 =>
   obtain ⟨u1,u2⟩:=q;obtain ⟨ra,rb⟩:=r1;cases (show u1=Value.ref x.2.1 from ra);unfold storeAll;rw [List.forIn_cons];refine yaa (yaa (zmv hu I e (hk x (.head _)) rb (by rw [ybB];omega) fun s' I'=>yac ?_));refine zmU hu ps us' (zdW acc x.1 x.2.2) _ s' I' zam (fun y hy=>?_) r2 (by have:=zb5 acc x.1 x.2.2;omega) fun s'' I''=>h s'' ?_
   ·rw [zag (zrs (hk y (.tail _ hy)) e (fun z=>nomatch z))];exact hk y (.tail _ hy)
   ·have eu:upd (upd H a (.dT (zdW acc x.1 x.2.2))) a (.dT (zcb (zdW acc x.1 x.2.2) ps))=upd H a (.dT (zcb acc (x::ps))):=by
     funext b;unfold upd
     by_cases hb:b=a
     ·rw [if_pos hb,if_pos hb];rfl
     ·rw [if_neg hb,if_neg hb,if_neg hb]
    rw [eu] at I'';exact I''
noncomputable def zpV(trs:List (TE×TE)):TE:=fun σ H Q=>∀p,H p=none->zjf trs σ (upd H p (.dT [])) fun ps H2=>H2 p=some (.dT [])/\∃kvs:List (List Key×Addr×V),ps=kvs.map (fun x=>(.ref x.2.1,x.2.2))/\(∀x∈kvs,H2 x.2.1=some (.tup (x.1.map kV)))/\kvs.length<=15/\Q (.ref p) (upd H2 p (.dT (zcb [] kvs)))
def zlD{pos:Pos}{keys:List (Option Expr)}{values:List Expr}{trs:List (TE×TE)}(hu:X.A.units+1<cLine)(h:PPs X pos keys values trs)(hall:keys.all (·.isSome)=true)(hl:keys.length=values.length)(h0:keys≠[])(h15:keys.length<=15):PE X (.Dict keys values pos) (zpV trs):=by
 intro pins s σ H Q I q;have hn:=I.hok.fresh (yah s.heap.objs.size);have I1:=I.laid (a:=s.heap.objs.size) (o:=.dT []) (h':=s.heap.push { cls:=.type "dict",data:=.dict #[] }) (t':=s.toks) (fun _ _ q=>yae _ q) (yah _) (zmq s.heap I.big);refine wpAny_Dict_any hall hl h0 h15 (thn (h pins _ σ _ _ I1 (q _ hn)) fun ws s2 ⟨ps,H2,I2,rel,e,kvs,ep,hk,lk,q2⟩=>?_);subst ep;exact zmU hu kvs ws [] H2 s2 I2 e hk rel (by rw [List.length_nil];omega) fun s' I'=>⟨.ref s.heap.objs.size,_,I',rfl,q2⟩
end
end L2
namespace S2
open PySem PySem.Spec PyProof.Rows L2
noncomputable def zeR(i:Nat)(ρ:Env):Option D:=match ρ[i]? with | some (some (false,d))=>some d | _=>none
def zc8{i:Nat}{ρ:Env}{d:D}(h:zeR i ρ=some d):ρ[i]?=some (some (false,d)):=by
 unfold zeR at h;split at h
 ·rename_i e;cases h;exact e
 ·cases h
noncomputable def dnO(i1 j1 i2 j2:Nat)(ρ:Env):Option (List Key×D×List Key×D):=(zeR i1 ρ).bind fun a=>(zgL a).bind fun ka=>(zeR j1 ρ).bind fun c=>(zeR i2 ρ).bind fun b=>(zgL b).bind fun kb=>(zeR j2 ρ).bind fun d=>some (ka,c,kb,d)
noncomputable def zuB(i1 j1 i2 j2:Nat)(fk fz:Fe):Fe:=fun ρ S=>match dnO i1 j1 i2 j2 ρ with
 | some x=>(fk ρ S).bind fun k S2=>(fz ρ S2).bind fun z S3=>(match zgL k with | some kk=>.ok (if kk=x.2.2.1 then x.2.2.2 else if kk=x.1 then x.2.1 else z) S3 | none=>.bad)
 | none=>.bad
def obs{α β:Type}{o:Option α}{f:α->Option β}{b:β}(h:o.bind f=some b):∃a,o=some a/\f a=some b:=by
 cases o with
 | none=>cases h
 | some a=>exact ⟨a,rfl,h⟩
section
variable{X:Cx}{cl:Cf}{E:St->XK}{ek ez:Expr}{fk fz:Fe}
def zrx{ka kb kk:List Key}{a b:Addr}{v1 v2:V}:zc3 (zcb [] [(ka,a,v1),(kb,b,v2)]) kk=if kk=kb then some v2 else if kk=ka then some v1 else none:=by
 show zc3 (zdW (zdW [] ka v1) kb v2) kk=_;rw [ze9,ze9];rfl
def zqy{i1 j1 i2 j2:Nat}{x y x2 y2:Str}{p1 p2 p3 p4 dp ap cp:Pos}(hu:X.A.units+1<cLine)
  (h1:PE X (.Name x p1) (zmP i1)) (h2:PE X (.Name y p2) (zmP j1)) (h3:PE X (.Name x2 p3) (zmP i2)) (h4:PE X (.Name y2 p4) (zmP j2)) (hk:PE X ek (tE cl E fk)) (hz:PE X ez (tE cl E fz))
  (m:M2 X (.Dict [some (.Name x p1),some (.Name x2 p3)] [.Name y p2,.Name y2 p4] dp) "get" ap ek ez cp) :
  PE X (.Call (.Attribute (.Dict [some (.Name x p1),some (.Name x2 p3)] [.Name y p2,.Name y2 p4] dp) "get" ap) [ek,ez] [] cp) (tE cl E (zuB i1 j1 i2 j2 fk fz)):=by
 refine PE.imp (zlE hu (zlD hu (zhK h1 h2 (zhK h3 h4 zoq)) rfl rfl (fun z=>by cases z) (by show (2:Nat)<=15;decide)) hk hz m) ?_;rintro σ H Q ⟨B,w,ρ,S,rfl,R,q⟩;unfold zuB at q
 cases hd:dnO i1 j1 i2 j2 ρ with
 | none=>rw [hd] at q;exact q.elim
 | some xx =>
  rw [hd] at q;unfold dnO at hd;obtain ⟨a,ea,hd⟩:=obs hd;obtain ⟨ka,eka,hd⟩:=obs hd;obtain ⟨c,ec,hd⟩:=obs hd;obtain ⟨b,eb,hd⟩:=obs hd;obtain ⟨kb,ekb,hd⟩:=obs hd;obtain ⟨d,ed,hd⟩:=obs hd;cases hd;dsimp only at q;obtain ⟨va,sa,ra⟩:=R.slots i1 _ _ (zc8 ea);obtain ⟨vc,sc,rc⟩:=R.slots j1 _ _ (zc8 ec);obtain ⟨vb,sb,rb⟩:=R.slots i2 _ _ (zc8 eb);obtain ⟨vd,sd,rd⟩:=R.slots j2 _ _ (zc8 ed);have ra:Shd cl w va a:=ra;have rc:Shd cl w vc c:=rc;have rb:Shd cl w vb b:=rb;have rd:Shd cl w vd d:=rd;obtain ⟨qa,rfl,ha1,ha2⟩:=zff eka ra;obtain ⟨qb,rfl,hb1,hb2⟩:=zff ekb rb;intro p hp;have na:qa≠p:=zai ha1 hp;have nb:qb≠p:=zai hb1 hp;refine ⟨_,sa,_,sc,_,sb,_,sd,zam,[(ka,qa,vc),(kb,qb,vd)],rfl,?_,by show (2:Nat)<=15;decide,?_⟩
  ·intro z hz;simp only [yat,ya7,ycL] at hz
   rcases hz with rfl | rfl
   ·rw [zag na];exact ha1
   ·rw [zag nb];exact hb1
  ·have eH:upd (upd w.H p (.dT [])) p (.dT (zcb [] [(ka,qa,vc),(kb,qb,vd)]))=(w.add p (.dT (zcb [] [(ka,qa,vc),(kb,qb,vd)]))).H:=by
    funext b;show upd (upd w.H p _) p _ b=upd w.H p _ b;unfold upd
    by_cases hb:b=p
    ·rw [if_pos hb,if_pos hb]
    ·rw [if_neg hb,if_neg hb,if_neg hb]
   rw [eH];have gr:=zan (w:=w) hp (.dT (zcb [] [(ka,qa,vc),(kb,qb,vd)]));have hp0:(w.add p (.dT (zcb [] [(ka,qa,vc),(kb,qb,vd)]))).H p=some (.dT (zcb [] [(ka,qa,vc),(kb,qb,vd)])):=zam;have ow0:(w.add p (.dT (zcb [] [(ka,qa,vc),(kb,qb,vd)]))).ow p=none:=if_pos rfl;refine ⟨p,rfl,⟨_,.inl hp0⟩,B,_,ρ,S,rfl,R.grow gr,?_⟩
   cases hfv:fk ρ S with
   | bad=>rwa [hfv] at q
   | exc cc S1=>rw [hfv] at q;exact fun w2 R2 F2=>q w2 R2 (gr.fut.trans F2)
   | ok k S1 =>
    rw [hfv] at q;intro yv w2 R2 F2 sy;refine ⟨B,w2,ρ,S1,rfl,R2,?_⟩;dsimp only [Out.bind] at q
    cases hgv:fz ρ S1 with
    | bad=>rwa [hgv] at q
    | exc cc S2=>rw [hgv] at q;exact fun w3 R3 F3=>q w3 R3 (gr.fut.trans (F2.trans F3))
    | ok z S2 =>
     rw [hgv] at q;dsimp only at q;intro zv w3 R3 F3 sz
     cases hkk:zgL k with
     | none=>rw [hkk] at q;exact q.elim
     | some kk =>
      rw [hkk] at q;dsimp only at q;obtain ⟨bb,rfl,hb1',hb2'⟩:=zff hkk (sy.up F3);refine ⟨_,zsq.t ((F2.trans F3).keep _ _ hp0 ow0).1 hb1',?_⟩;have FF:=gr.fut.trans (F2.trans F3);rw [zrx]
      by_cases e1:kk=kb
      ·rw [if_pos e1] at q ⊢;exact q vd w3 R3 FF (rd.up FF)
      ·rw [if_neg e1] at q ⊢
       by_cases e2:kk=ka
       ·rw [if_pos e2] at q ⊢;exact q vc w3 R3 FF (rc.up FF)
       ·rw [if_neg e2] at q ⊢;exact q zv w3 R3 FF sz
end
end S2
namespace ST
open PySem PySem.Spec PySem.W PyProof.Rows
section
variable{prog:Program}{w:World}{A:Around}{E:Z5}{s:Shared}
theorem zcw{h h':Heap}(k:∀b o,h.get? b=some o->o.cls=.type "tuple" -> h'.get? b=some o):∀{vs fs:List Value},KatTups h vs fs->KatTups h' vs fs
 | [],[],_=>trivial
 | _::_,_::_,t=>by
  obtain ⟨⟨a,o,xs,n,e,ho,hc,hd,hf⟩,t⟩:=t;exact ⟨⟨a,o,xs,n,e,k a o ho hc,hc,hd,hf⟩,zcw k t⟩
def zf4{a:Addr}{vs fs:List Value}{n:Nat}{p:Array Nat}{P:PySem.Fin->Shared->Prop}(ho:s.heap.get? a=some (seqObj "list" vs.toArray n))(h2:2<=vs.length)(h64:vs.length<64)(t:KatTups s.heap vs fs)(hn:0<fs.length)(hf:∀v∈fs,∃i t,v=.int i t)
  (h:∀(s':Shared) (G:Array Nat->Shared->Prop),(∀b o,s.heap.get? b=some o->o.cls=.type "tuple" -> s'.heap.get? b=some o)->G p s'->(kas_sort vs.length).kasWp (kas_ask prog w A (tuples' true) vs) G s')
  (hP:P (.done (.ret .none)) { s with heap:=sortedHeap s.heap a vs (List.toArray (p.toList.map fun i=>vs.getD i Value.none)) }) :
  wpAny (model prog w) A (Builtin.«list.sort» ⟨[.ref a],[]⟩) P E s:=by
 rw [list_sort_plain];have ha:a<s.heap.objs.size:=yan ho;refine yaa (listItems_at ho rfl ?_);refine yaa (ydn ho rfl ?_ (by rw [yag,ybB];omega) (yaL _));obtain ⟨e1,ho1⟩:∃e1,(s.heap.update a (Obj.mapSeq fun _=>#[])).get? a=some (seqObj "list" #[] e1):=⟨_,get?_update_seq ho (fun _=>#[])⟩;refine yaa (seqEpoch_at ho1 rfl ?_);refine yaa (wpAny_newTuple ?_ (by show vs.length<=_;rw [ybB];omega));refine yaa (ycV ?_ (yaL _));refine yaW ?_;have ho6:(((s.heap.update a (Obj.mapSeq fun _=>#[])).push (seqObj "tuple" vs.toArray 0)).push (seqObj "list" #[] 0)).get? a=some (seqObj "list" #[] e1):=yae _ (yae _ ho1)
 have kp:∀b o,s.heap.get? b=some o->o.cls=.type "tuple" -> (((s.heap.update a (Obj.mapSeq fun _=>#[])).push (seqObj "tuple" vs.toArray 0)).push (seqObj "list" #[] 0)).get? b=some o:=by
  intro b o hb hc
  have hne:b≠a:=fun z=>by
   subst z;rw [ho] at hb;cases hb;exact absurd (Value.type.inj hc) (by decide)
  exact yae _ (yae _ ((Heap.SameBut.update s.heap a _).2 b hne |>.trans hb))
 show wpAny (model prog w) A _ P E { s with heap:=((s.heap.update a (Obj.mapSeq fun _=>#[])).push (seqObj "tuple" vs.toArray 0)).push (seqObj "list" #[] 0) };dsimp only
 have hn2:¬ vs.toArray.size<2:=by rw [yag];omega
 rw [if_neg hn2,if_neg hn2];refine yaa (kat_kind (fs:=fs) (T:=.type "int") (zcw kp t) hn (fun v hv=>?_) (by decide) ?_)
 ·obtain ⟨i,tk,rfl⟩:=hf v hv;exact .now
 refine yaa (ybx (kat_run (Q:=fun st' s'=>s'={ s with heap:=((s.heap.update a (Obj.mapSeq fun _=>#[])).push (seqObj "tuple" vs.toArray 0)).push (seqObj "list" #[] 0) }/\p.size=vs.length/\arrOf st'=p.map (kas_item (vs.toArray.zip vs.toArray))/\failedOf st'=none)
  (G:=fun q s'=>q=p/\s'={ s with heap:=((s.heap.update a (Obj.mapSeq fun _=>#[])).push (seqObj "tuple" vs.toArray 0)).push (seqObj "list" #[] 0) }) rfl h2 h64 (fun p' st' s' a1 a2 a3 a4=>?_) (h _ _ kp ⟨rfl,rfl⟩)) ?_ fun _ _ e=>e)
 ·obtain ⟨rfl,rfl⟩:=a4;exact ⟨rfl,a1,a2,a3⟩
 rintro ⟨⟨⟩,st'⟩ s' ⟨rfl,hp,har,hfl⟩;dsimp only;have hout:=kat_snds rfl har
 have hsz:(List.toArray (p.toList.map fun i=>vs.getD i Value.none)).size=vs.length:=by rw [yag,yaf,yaB,hp]
 rw [hout];refine yaa (seqEpoch_at ho6 rfl ?_);refine yaa (ydn ho6 rfl ?_ (yaL _) (yaq (yc5 hsz) (by rw [ybB];omega)));rw [hfl];simp only [bne_self_eq_false,yax,ybm];exact yac hP
noncomputable def lxL(a1 a2 b1 b2:Int):Bool:=decide (a1<b1\/(a1=b1/\a2<b2))
def zic{vs:List Value}{i j:Nat}{x y:Addr}{a1 a2 b1 b2:Int}{t1 t2 u1 u2:Tok}{C:Bool->Shared->Prop}(hi:vs.getD i Value.none=.ref x)(hj:vs.getD j Value.none=.ref y)(hx:s.heap.IsTuple x #[.int a1 t1,.int a2 t2])(hy:s.heap.IsTuple y #[.int b1 u1,.int b2 u2])
  (h:C (lxL a1 a2 b1 b2) s):kas_ask prog w A (tuples' true) vs i j C s:=by
 unfold kas_ask;rw [hi,hj];obtain ⟨ox,ex,_,nx,dx⟩:=hx;obtain ⟨oy,ey,_,ny,dy⟩:=hy;refine kat_lt ex dx ey dy ?_;refine kat_cons (wpAny_eqBool_int ?_)
 by_cases e1:a1=b1
 ·subst e1;rw [ybD];refine kat_yes (kat_cons (wpAny_eqBool_int ?_))
  by_cases e2:a2=b2
  ·subst e2;rw [ybD];refine kat_yes (kat_nil ?_)
   have:lxL a1 a2 a1 a2=decide ((#[Value.int a1 t1,Value.int a2 t2]:Array Value).size<(#[Value.int a1 u1,Value.int a2 u2]:Array Value).size):=by simp [lxL]
   rw [<-this];exact h
  ·rw [yc2 e2];refine kat_no (kat_one _ _ (lt_int ?_))
   have:lxL a1 a2 a1 b2=decide (a2<b2):=by simp [lxL]
   rwa [this] at h
 ·rw [yc2 e1];refine kat_no (oneLt_int ?_)
  have:lxL a1 a2 b1 b2=decide (a1<b1):=by simp [lxL,e1]
  rwa [this] at h
def zoV:∃k,kas_sort 2=.ask 1 0 k/\k true=.ret #[1,0]/\k false=.ret #[0,1]:=⟨_,rfl,rfl,rfl⟩
def zgW{l:Addr}{vs fs:List Value}{p:Array Nat}{Q:Z5}(hl:s.heap.IsList l vs.toArray)(h2:2<=vs.length)(h64:vs.length<64)(t:KatTups s.heap vs fs)(hn:0<fs.length)(hf:∀v∈fs,∃i t,v=.int i t)
  (h:∀(s':Shared) (G:Array Nat->Shared->Prop),(∀b o,s.heap.get? b=some o->o.cls=.type "tuple" -> s'.heap.get? b=some o)->G p s'->(kas_sort vs.length).kasWp (kas_ask prog w A.in1.in1 (tuples' true) vs) G s')
  (hQ:∀(h':Heap) (e:Nat),(∀b o,s.heap.get? b=some o->h'.get? b=some o)->h'.get? (s.heap.objs.size+1)=some (seqObj "list" (List.toArray (p.toList.map fun i=>vs.getD i Value.none)) e)->Q (.ref (s.heap.objs.size+1)) { s with heap:=h' }) :
  wpAny (model prog w) A (call (.builtin "sorted") [.ref l]) Q E s:=by
 refine ycj kind_sorted plain_sorted entry_sorted (args_sorted1 _) ?_;unfold Builtin.«sorted»;refine yaa (m:=checkCount "sorted" 1 1 _) (yac ?_);refine yaa (collect_list hl ?_ (by rw [ybB];omega));refine yaa (ycV ?_ (by rw [ybB];omega))
 have hsz:((s.heap.push (seqObj "list" #[] 0)).update s.heap.objs.size (Obj.mapSeq (·++vs.toArray))).objs.size=s.heap.objs.size+1:=by
  rw [Heap.size_update,size_push']
 have hoL:(((s.heap.push (seqObj "list" #[] 0)).update s.heap.objs.size (Obj.mapSeq (·++vs.toArray))).push (seqObj "list" vs.toArray 0)).get? (s.heap.objs.size+1)=some (seqObj "list" vs.toArray 0):=by
  rw [<-hsz];exact yak _ rfl
 have keep:∀b o,s.heap.get? b=some o->(((s.heap.push (seqObj "list" #[] 0)).update s.heap.objs.size (Obj.mapSeq (·++vs.toArray))).push (seqObj "list" vs.toArray 0)).get? b=some o:=fun b o q=>by
  have hlt:b<s.heap.objs.size:=yan q;rw [Heap.get?_push_ne _ _ _ (by rw [hsz];exact yar (ya0 hlt)),Heap.get?_update_ne _ _ _ _ (yar hlt),Heap.get?_push_ne _ _ _ (yar hlt)];exact q
 have hgs:(((s.heap.push (seqObj "list" #[] 0)).update s.heap.objs.size (Obj.mapSeq (·++vs.toArray))).push (seqObj "list" vs.toArray 0)).objs.size=s.heap.objs.size+2:=by rw [size_push',hsz]
 rw [hsz];generalize ((s.heap.push (seqObj "list" #[] 0)).update s.heap.objs.size (Obj.mapSeq (·++vs.toArray))).push (seqObj "list" vs.toArray 0)=g at *;refine yaa (yaW (yaS slot_list_sort ⟨_,hoL,rfl⟩ entry_list_sort (zf4 (s:={ s with heap:=g }) (fs:=fs) (p:=p) hoL h2 h64 (zcw (fun b o e _=>keep b o e) t) hn hf (fun s' G k hg=>h s' G (fun b o e c=>k b o (keep b o e) c) hg) ⟨_,rfl,?_⟩) (args_list_sort _)));refine yac ⟨_,rfl,?_⟩;obtain ⟨e,he⟩:=sortedHeap_at (out:=List.toArray (p.toList.map fun i=>vs.getD i Value.none)) hoL;refine hQ _ e (fun b o hb=>?_) he;have hlt:b<s.heap.objs.size:=yan hb;rw [sortedHeap_old (yar (ya0 hlt)) (by rw [hgs];exact ya0 (ya0 hlt))];exact keep b o hb
end
end ST
namespace L2
open PySem PySem.Spec PySem.W PyProof.Rows ST
section
variable{X:Cx}
def zgD(hc:X.calm=true):zc2 X (.builtin "sorted") (fun xs H Q=>∃(p q1 q2:Addr) (a1 a2 b1 b2:Int),xs=[.ref p]/\SqL X.K H p [.ref q1,.ref q2]/\SqT X.K H q1 [.int a1,.int a2]/\SqT X.K H q2 [.int b1,.int b2] ∧
  ∀l,H l=none->Q (.ref l) (upd H l (.lst (if lxL b1 b2 a1 a2 then [.ref q2,.ref q1] else [.ref q1,.ref q2])))):=by
 intro pins s σ H xs us Q I r h;obtain ⟨p,q1,q2,a1,a2,b1,b2,rfl,hq,h1,h2,q⟩:=h;obtain ⟨u,rfl,rx⟩:=zeG r;cases rx;obtain ⟨its,rv,pl,hz⟩:=I.list hq
 cases rv with
 | cons r1 rv =>
  cases rv with
  | cons r2 rv =>
   cases rv;cases r1;cases r2;obtain ⟨ts,rt,pt,_⟩:=I.tuple h1;obtain ⟨us,ru,pu,_⟩:=I.tuple h2
   cases rt with
   | cons c1 rt =>
    cases rt with
    | cons c2 rt =>
     cases rt
     cases ru with
     | cons d1 ru =>
      cases ru with
      | cons d2 ru =>
       cases ru;obtain ⟨t1,rfl⟩:=c1;obtain ⟨t2,rfl⟩:=c2;obtain ⟨u1,rfl⟩:=d1;obtain ⟨u2,rfl⟩:=d2;have pt':s.heap.IsTuple q1 #[.int a1 t1,.int a2 t2]:=pt;have pu':s.heap.IsTuple q2 #[.int b1 u1,.int b2 u2]:=pu;refine zgW (vs:=[.ref q1,.ref q2]) (fs:=[.int a1 t1,.int b1 u1]) (p:=if lxL b1 b2 a1 a2 then #[1,0] else #[0,1]) pl.isList (yah _) (by show (2:Nat)<64;decide) ?_ (by show (0:Nat)<2;decide) ?_ ?_ ?_
       ·obtain ⟨o,e,c,n,d⟩:=pt';obtain ⟨o',e',c',n',d'⟩:=pu';exact KatTups.cons e c d rfl (KatTups.cons e' c' d' rfl KatTups.nil)
       ·intro v hv;simp only [yat,ya7,ycL] at hv
        rcases hv with rfl | rfl
        ·exact ⟨_,_,rfl⟩
        ·exact ⟨_,_,rfl⟩
       ·intro s' G k hg;obtain ⟨kk,ek,k1,k2⟩:=zoV;show (kas_sort 2).kasWp _ _ _;rw [ek];show kas_ask _ _ _ _ _ 1 0 _ _;have up:∀{x:Addr} {xs:Array Value},s.heap.IsTuple x xs->s'.heap.IsTuple x xs:=fun ⟨o,e,c,r⟩=>⟨o,k _ _ e c,c,r⟩
        refine zic (x:=q2) (y:=q1) rfl rfl (up pu') (up pt') ?_
        cases hb:lxL b1 b2 a1 a2 with
        | true=>rw [hb] at hg;show (kk true).kasWp _ _ _;rw [k1];exact hg
        | false=>rw [hb] at hg;show (kk false).kasWp _ _ _;rw [k2];exact hg
       ·intro h' e k hg;have fr:H (s.heap.objs.size+1)=none:=I.hok.fresh (ybu _);refine ⟨.ref (s.heap.objs.size+1),_,I.laid (h':=h') (t':=s.toks) (o:=.lst (if lxL b1 b2 a1 a2 then [.ref q2,.ref q1] else [.ref q1,.ref q2])) k (ybu _) ?_,rfl,q _ fr⟩
        cases hb:lxL b1 b2 a1 a2 with
        | true=>rw [hb] at hg;exact ⟨by show (2:Nat)<=_;decide,[.ref q2,.ref q1],e,.cons rfl (.cons rfl .nil),hg⟩
        | false=>rw [hb] at hg;exact ⟨by show (2:Nat)<=_;decide,[.ref q1,.ref q2],e,.cons rfl (.cons rfl .nil),hg⟩
end
end L2
namespace S2
open PySem PySem.Spec PyProof.Rows L2 ST
noncomputable def ziy:D->Option (Int×Int) | .tup [.int a,.int b]=>some (a,b) | _=>none
noncomputable def ztv:List D->Option (List D) | [x,y]=>(ziy x).bind fun a=>(ziy y).bind fun b=>some (if lxL b.1 b.2 a.1 a.2 then [y,x] else [x,y]) | _=>none
noncomputable def zuy(f g:Fe):Fe:=fun ρ S=>(zah [f,g] ρ S).bind fun ds S1=>match ztv ds with | some l=>.ok (.lst l) S1 | none=>.bad
section
variable{X:Cx}{cl:Cf}{E:St->XK}{a b:Expr}{f g:Fe}
def zgh{w:Wd}{v:V}{d:D}{x:Int×Int}(h:Shd cl w v d)(e:ziy d=some x):∃q,v=.ref q/\w.H q=some (.tup [.int x.1,.int x.2]):=by
 unfold ziy at e;split at e
 ·cases e
  cases h with
  | tup ep k r =>
   cases r with
   | cons r1 r2 =>
    cases r2 with
    | cons r2 r3=>cases r3;cases r1;cases r2;exact ⟨_,rfl,ep⟩
 ·cases e
def zqp{p lp pos:Pos}(hc:X.calm=true)(hg:Gl X "sorted")(hm:X.mg "sorted" = none)(ha:PA X [a,b] (tAs cl E [f,g])) :
  PE X (.Call (.Name "sorted" p) [.List [a,b] lp] [] pos) (tN cl E (zuy f g)):=by
 refine PE.imp (zdc (zgD hc) hg hm (by decide +kernel) (za9 (znc ha) zch)) ?_;rintro σ H Q ⟨B,w,ρ,S,rfl,R,q⟩;refine ⟨B,w,ρ,S,rfl,R,?_⟩;unfold zuy at q
 cases hf:zah [f,g] ρ S with
 | bad=>rw [hf] at q;exact q.elim
 | exc c S1=>rwa [hf] at q
 | ok ds S1 =>
  rw [hf] at q;dsimp only [Out.bind] at q;intro vs w1 R1 F1 sh
  cases hs:ztv ds with
  | none=>rw [hs] at q;exact q.elim
  | some l =>
   rw [hs] at q;dsimp only at q;unfold ztv at hs;split at hs
   ·rename_i x y
    cases h1:ziy x with
    | none=>rw [h1] at hs;cases hs
    | some pa =>
     rw [h1] at hs
     cases h2:ziy y with
     | none=>dsimp only [Option.bind] at hs;rw [h2] at hs;cases hs
     | some pb =>
      dsimp only [Option.bind] at hs;rw [h2] at hs;cases hs
      cases sh with
      | cons s1 sh =>
       cases sh with
       | cons s2 sh =>
        cases sh;obtain ⟨q1,rfl,e1⟩:=zgh s1 h1;obtain ⟨q2,rfl,e2⟩:=zgh s2 h2;refine ⟨by show (2:Nat)<=_;decide,fun p hp=>⟨p,q1,q2,pa.1,pa.2,pb.1,pb.2,rfl,SqL.of zam,SqT.of (by rw [zag (zai e1 hp)];exact e1),SqT.of (by rw [zag (zai e2 hp)];exact e2),fun l hl=>?_⟩⟩;have gr:=zan (w:=w1) hp (.lst [V.ref q1,V.ref q2]);refine q l _ (w1.add p (.lst [V.ref q1,V.ref q2])) (R1.grow gr) (F1.trans gr.fut) hl (.lst ?_)
        cases lxL pb.1 pb.2 pa.1 pa.2 with
        | true=>exact .cons (s2.up gr.fut) (.cons (s1.up gr.fut) .nil)
        | false=>exact .cons (s1.up gr.fut) (.cons (s2.up gr.fut) .nil)
   ·cases hs
end
end S2
namespace ST
open PySem PySem.Spec PySem.W PyProof.Rows
noncomputable def zw6(ks:List Nat)(i j:Nat):Option Bool:=(ks[i]?).bind fun a=>(ks[j]?).map fun b=>decide (a<b)
noncomputable def zm1{α:Type}(ks:List Nat):KasT α->Option α
 | .ret a=>some a
 | .ask i j k=>match zw6 ks i j with | some true=>zm1 ks (k true) | some false=>zm1 ks (k false) | none=>none
noncomputable def zcU:List Nat:=[0,1,2,3,4]
noncomputable def zuH(ks:List Nat):Bool:=match zm1 ks (kas_sort ks.length) with
 | some p=>decide (p.toList.map (fun i=>ks.getD i 9)=zcU.filter fun x=>decide (x∈ks))
 | none=>false
noncomputable def zuX:Nat->List (List Nat) | 0=>[[]] | n+1=>zcU.flatMap fun a=>(zuX n).map (a::·)
theorem zid:∀{ks:List Nat},(∀k∈ks,k<5)->ks∈zuX ks.length
 | [],_=>.head _
 | a::ks,h=>by
  show _∈zcU.flatMap _;rw [ycl];refine ⟨a,?_,yao.mpr ⟨ks,zid fun k hk=>h k (.tail _ hk),rfl⟩⟩;have:=h a (.head _)
  match a,this with
  | 0,_=>decide
  | 1,_=>decide
  | 2,_=>decide
  | 3,_=>decide
  | 4,_=>decide
def zpk:∀n∈[2,3,4,5],∀ks∈zuX n,(!decide ks.Nodup||zuH ks)=true:=by decide +kernel
def zr8{ks:List Nat}(h:∀k∈ks,k<5)(nd:ks.Nodup)(h2:2<=ks.length)(h5:ks.length<=5):zuH ks=true:=by
 have hn:ks.length∈[2,3,4,5]:=by
  simp only [yat,ya7,ycL];omega
 have:=zpk _ hn _ (zid h);rwa [yaH nd] at this
theorem zg3{α:Type}{cmp:Nat->Nat->(Bool->Shared->Prop)->Shared->Prop}{ks:List Nat}{s:Shared}{Q:α->Shared->Prop}(hc:∀i j a b C,ks[i]?=some a->ks[j]?=some b->C (decide (a<b)) s->cmp i j C s):∀(t:KasT α) (p:α),zm1 ks t=some p->Q p s->t.kasWp cmp Q s
 | .ret a,p,h,q=>by cases h;exact q
 | .ask i j k,p,h,q=>by
  show cmp i j (fun b s'=>(k b).kasWp cmp Q s') s;unfold zm1 at h;unfold zw6 at h
  cases ei:ks[i]? with
  | none=>rw [ei] at h;cases h
  | some a =>
   cases ej:ks[j]? with
   | none=>rw [ei,ej] at h;cases h
   | some b =>
    rw [ei,ej] at h;refine hc i j a b _ ei ej ?_;have h':(match some (decide (a<b)) with | some true=>zm1 ks (k true) | some false=>zm1 ks (k false) | none=>none)=some p:=h
    cases hd:decide (a<b) with
    | true=>rw [hd] at h';exact zg3 hc (k true) p h' q
    | false=>rw [hd] at h';exact zg3 hc (k false) p h' q
section
variable{prog:Program}{w:World}{A:Around}{E:Z5}{s:Shared}
def zlg{a:Addr}{vs:List Value}{n:Nat}{P:PySem.Fin->Shared->Prop}(ho:s.heap.get? a=some (seqObj "list" vs.toArray n))(h2:vs.length<2)
  (hP:P (.done (.ret .none)) { s with heap:=sortedHeap s.heap a vs vs.toArray }):wpAny (model prog w) A (Builtin.«list.sort» ⟨[.ref a],[]⟩) P E s:=by
 rw [list_sort_plain];refine yaa (listItems_at ho rfl ?_);refine yaa (ydn ho rfl ?_ (by rw [yag,ybB];omega) (yaL _));obtain ⟨e1,ho1⟩:∃e1,(s.heap.update a (Obj.mapSeq fun _=>#[])).get? a=some (seqObj "list" #[] e1):=⟨_,get?_update_seq ho (fun _=>#[])⟩;refine yaa (seqEpoch_at ho1 rfl ?_);refine yaa (wpAny_newTuple ?_ (by show vs.length<=_;rw [ybB];omega));refine yaa (ycV ?_ (yaL _));refine yaW ?_;have ho6:(((s.heap.update a (Obj.mapSeq fun _=>#[])).push (seqObj "tuple" vs.toArray 0)).push (seqObj "list" #[] 0)).get? a=some (seqObj "list" #[] e1):=yae _ (yae _ ho1);show wpAny (model prog w) A _ P E { s with heap:=((s.heap.update a (Obj.mapSeq fun _=>#[])).push (seqObj "tuple" vs.toArray 0)).push (seqObj "list" #[] 0) };dsimp only
 have hn2:vs.toArray.size<2:=by rw [yag];omega
 rw [if_pos hn2,if_pos hn2];refine yaa (yac ?_);rw [StateT.run_pure];refine yaa (yac ?_);dsimp only;refine yaa (seqEpoch_at ho6 rfl ?_)
 have em:(arrOf (SortSt.mk' general' (vs.toArray.zip vs.toArray) #[] 7 none)).map (·.2)=vs.toArray:=by
  show (vs.toArray.zip vs.toArray).map (·.2)=vs.toArray;apply Array.toList_inj.mp;simp;exact List.map_snd_zip (yah _)
 refine yaa (ydn ho6 rfl ?_ (yaL _) (by show ((arrOf (SortSt.mk' general' (vs.toArray.zip vs.toArray) #[] 7 none)).map (·.2)).size<=_;rw [em,yag,ybB];omega));simp only [bne_self_eq_false,yax,ybm];refine yac ?_;have:=hP;rwa [<-em] at this
end
end ST
namespace ST
open PySem PySem.Spec PySem.W PyProof.Rows
section
variable{prog:Program}{w:World}{K:Type}[DecidableEq K]{knd:KeyKind prog w K}{A:Around}{E:Z5}{s:Shared}
noncomputable def ze8(h:Heap)(a:Addr)(n:Nat)(v:Int):Prop:=∃t u,h.get? a=some { cls:=.type "tuple",data:=.seq #[.int (n:Int) t,.int v u] }
theorem zgw{h:Heap}:∀{as:List Addr} {kn:List Nat} {vn:List Int},as.length=kn.length->(∀(j:Nat) (a:Addr),as[j]?=some a->∃n v,kn[j]?=some n/\vn[j]?=some v/\ze8 h a n v)->∃fs,KatTups h (as.map Value.ref) fs/\fs.length=as.length/\∀v∈fs,∃i t,v=.int i t
 | [],_,_,_,_=>⟨[],KatTups.nil,rfl,fun v hv=>nomatch hv⟩
 | a::as,[],_,hl,_=>by cases hl
 | a::as,n::kn,vn,hl,hp=>by
  obtain ⟨n',v,_,_,t,u,e⟩:=hp 0 a rfl
  obtain ⟨fs,h1,h2,h3⟩:=zgw (as:=as) (kn:=kn) (vn:=vn.tail) (Nat.succ.inj hl) (fun j b hb=>by
   obtain ⟨n,v,e1,e2,e3⟩:=hp (j+1) b hb
   exact ⟨n,v,e1,by rw [List.getElem?_tail];exact e2,e3⟩)
  refine ⟨.int n' t::fs,KatTups.cons e rfl rfl rfl h1,congrArg Nat.succ h2,fun v hv=>?_⟩
  rcases yat.mp hv with rfl | hv
  ·exact ⟨_,_,rfl⟩
  ·exact h3 v hv
def ziq{B:Addr}{as:List Addr}{kn:List Nat}{vn:List Int}{n:Nat}{P:PySem.Fin->Shared->Prop}(ho:s.heap.get? B=some (seqObj "list" (as.map Value.ref).toArray n))(hl:as.length=kn.length)(hp:∀(j:Nat) (a:Addr),as[j]?=some a->∃n v,kn[j]?=some n/\vn[j]?=some v/\ze8 s.heap a n v)
  (nd:kn.Nodup) (h5:∀k∈kn,k<5) (hl5:kn.length<=5)
  (hP:∀p:List Nat,p.map (fun i=>kn.getD i 9)=zcU.filter (fun x=>decide (x∈kn))->(∀i∈p,i<kn.length)->P (.done (.ret .none)) { s with heap:=sortedHeap s.heap B (as.map Value.ref) (List.toArray (p.map fun i=>(as.map Value.ref).getD i Value.none)) }) :
  wpAny (model prog w) A (Builtin.«list.sort» ⟨[.ref B],[]⟩) P E s:=by
 have lin:∀p:List Nat,p.map (fun i=>kn.getD i 9)=zcU.filter (fun x=>decide (x∈kn))->∀i∈p,i<kn.length:=by
  intro p hp i hi;have:kn.getD i 9∈zcU.filter (fun x=>decide (x∈kn)):=hp ▸ yao.mpr ⟨i,hi,rfl⟩
  have h9:kn.getD i 9≠9:=fun z=>by
   rw [z] at this;exact absurd (yb3.mp this).1 (by decide)
  rcases ydd i kn.length with h | h
  ·exact h
  ·exact absurd (by rw [yai,yaQ h];rfl) h9
 by_cases h2:2<=kn.length
 ·have hc:=zr8 h5 nd h2 hl5;unfold zuH at hc
  cases hr:zm1 kn (kas_sort kn.length) with
  | none=>rw [hr] at hc;cases hc
  | some p =>
   rw [hr] at hc;have hc:p.toList.map (fun i=>kn.getD i 9)=zcU.filter (fun x=>decide (x∈kn)):=yaj hc;obtain ⟨fs,t1,t2,t3⟩:=zgw hl hp;refine zf4 (fs:=fs) (p:=p) ho (by rw [yaf,hl];exact h2) (by rw [yaf,hl];omega) t1 (by omega) t3 (fun s' G k hg=>?_) (hP p.toList hc (lin _ hc));rw [yaf,hl];refine zg3 (fun i j a b C ei ej hC=>?_) _ p hr hg
   have li:i<as.length:=by rw [hl];exact (yam.mp ei).1
   have lj:j<as.length:=by rw [hl];exact (yam.mp ej).1
   obtain ⟨n1,v1,q1,q2,t,u,q3⟩:=hp i as[i] (yad li);obtain ⟨n2,v2,r1,r2,t',u',r3⟩:=hp j as[j] (yad lj);rw [ei] at q1;cases q1;rw [ej] at r1;cases r1;refine zic (x:=as[i]) (y:=as[j]) (by rw [yai,yas,yad li];rfl) (by rw [yai,yas,yad lj];rfl) ⟨_,k _ _ q3 rfl,rfl,_,rfl⟩ ⟨_,k _ _ r3 rfl,rfl,_,rfl⟩ ?_
   have:lxL a v1 b v2=decide (a<b):=by
    unfold lxL;rw [ybX];constructor
    ·rintro (h | ⟨h,h'⟩)
     ·omega
     ·have hab:a=b:=by omega
      subst hab
      have hij:i=j:=by
       obtain ⟨x1,x2⟩:=yam.mp ei;obtain ⟨y1,y2⟩:=yam.mp ej;have np:=yci.mp nd
       rcases Nat.lt_trichotomy i j with hlt | he | hgt
       ·exact absurd (x2.trans y2.symm) (np i j x1 y1 hlt)
       ·exact he
       ·exact absurd (y2.trans x2.symm) (np j i y1 x1 hgt)
      subst hij;rw [q2] at r2;cases r2;omega
    ·intro h;left;omega
   rw [this];exact hC
 ·refine zlg ho (by rw [yaf,hl];omega) ?_
  have hlen:kn.length=0\/kn.length=1:=by omega
  rcases hlen with h0 | h1
  ·have:kn=[]:=ybb h0;subst this;have ea:as=[]:=ybb hl;subst ea;exact hP [] rfl (fun i hi=>nomatch hi)
  ·match kn,as,h1,hl with
   | [n],[a],_,_ =>
    have hn:=h5 n (.head _);refine hP [0] ?_ (fun i hi=>by rcases yaJ.mp hi with rfl;exact Nat.one_pos)
    match n,hn with
    | 0,_=>rfl
    | 1,_=>rfl
    | 2,_=>rfl
    | 3,_=>rfl
    | 4,_=>rfl
def zf3{r d:Addr}{kvs:List (K×Value)}{ep:Nat}{kn:List Nat}{vn:List Int}{Q:Z5}(hh:A.handled=none)(hv:s.heap.IsItemsView r d)(hm:s.heap.DictAt knd d kvs ep)(hl:kn.length=kvs.length)
  (hk:∀(j:Nat) (k:K) (x:Value),kvs[j]?=some (k,x)->∃n v u,kn[j]?=some n/\vn[j]?=some v/\x=.int v u/\∀key,knd.is k key=true->∃t,key=.int ((n:Nat):Int) t)
  (nd:kn.Nodup) (h5:∀k∈kn,k<5) (hl5:kn.length<=5)
  (hQ:∀(hm h':Heap) (tk e:Nat) (as:List Addr) (p:List Nat),(∀b o,s.heap.get? b=some o->hm.get? b=some o)->(∀b o,hm.get? b=some o->h'.get? b=some o)->as.length=kn.length->(∀a∈as,s.heap.objs.size<a)->(∀(j:Nat) (a:Addr),as[j]?=some a->∃n v,kn[j]?=some n/\vn[j]?=some v/\ze8 hm a n v) →
   as.Pairwise (· < ·)->p.map (fun i=>kn.getD i 9)=zcU.filter (fun x=>decide (x∈kn))->(∀i∈p,i<kn.length)->h'.get? hm.objs.size=some (seqObj "list" (List.toArray (p.map fun i=>(as.map Value.ref).getD i Value.none)) e)->Q (.ref hm.objs.size) { s with heap:=h',toks:=tk }) :
  wpAny (model prog w) A (call (.builtin "sorted") [.ref r]) Q E s:=by
 refine ycj kind_sorted plain_sorted entry_sorted (args_sorted1 _) ?_;unfold Builtin.«sorted»;refine yaa (m:=checkCount "sorted" 1 1 _) (yac ?_)
 have hz:kvs.length<=sizeLine:=by rw [<-hl,ybB];omega
 refine yaa (kdx_collect (A:=A.in1) (knd:=knd) (kvs:=kvs) (ep:=ep) hh hv hm hz fun h' tk as hkp hal hG=>?_);refine yaa (ycV ?_ (by rw [yaf,hal];exact hz));have hoL:(h'.push (seqObj "list" (as.map Value.ref).toArray 0)).get? h'.objs.size=some (seqObj "list" (as.map Value.ref).toArray 0):=yak _ rfl
 have hp:∀(j:Nat) (a:Addr),as[j]?=some a->∃n v,kn[j]?=some n/\vn[j]?=some v/\ze8 h' a n v:=by
  intro j a ha;obtain ⟨key,k,x,e1,e2,e3⟩:=hG.pairs j a ha;obtain ⟨n,v,u,q1,q2,rfl,q4⟩:=hk j k x e1;obtain ⟨t,rfl⟩:=q4 key e2;exact ⟨n,v,q1,q2,t,u,e3⟩
 refine yaa (yaW (yaS slot_list_sort ⟨_,hoL,rfl⟩ entry_list_sort (ziq (s:={ s with heap:=h'.push (seqObj "list" (as.map Value.ref).toArray 0),toks:=tk }) (kn:=kn) (vn:=vn) hoL (hal.trans hl.symm) (fun j a ha=>?_) nd h5 hl5 fun p p1 p2=>⟨_,rfl,?_⟩) (args_list_sort _)))
 ·obtain ⟨n,v,q1,q2,t,u,e⟩:=hp j a ha;exact ⟨n,v,q1,q2,t,u,yae _ e⟩
 refine yac ⟨_,rfl,?_⟩;obtain ⟨e,he⟩:=sortedHeap_at (out:=List.toArray (p.map fun i=>(as.map Value.ref).getD i Value.none)) hoL
 have old:∀b o,h'.get? b=some o->(sortedHeap (h'.push (seqObj "list" (as.map Value.ref).toArray 0)) h'.objs.size (as.map Value.ref) (List.toArray (p.map fun i=>(as.map Value.ref).getD i Value.none))).get? b=some o:=fun b o hb=>by
  have hl':b<h'.objs.size:=yan hb;rw [sortedHeap_old (yar hl') (by rw [size_push'];exact ya0 hl')];exact yae _ hb
 exact hQ h' _ tk e as p hkp old (hal.trans hl.symm) hG.above hp hG.rise p1 p2 he
end
end ST
namespace L2
open PySem PySem.Spec PySem.W PyProof.Rows ST
section
variable{X:Cx}{pins:Z3}{σ:St}{s:Shared}
noncomputable def zsm(H:Hp):List (Addr×Nat×Int)->Hp | []=>H | x::l=>zsm (upd H x.1 (.tup [.int (x.2.1:Int),.int x.2.2])) l
theorem zfW{n0:Nat}(h1:X.s₀.heap.objs.size<=n0)(h2:X.env.locals<n0)(h3:∀x c,X.env.cells.lookup x=some c->c<n0)(h4:∀p∈X.pn++pins,p.1<n0):∀(l:List (Addr×Nat×Int)) (H:Hp),Inv X pins σ H s->(∀x∈l,n0<=x.1/\H x.1=none/\ze8 s.heap x.1 x.2.1 x.2.2)->(l.map (·.1)).Nodup->Inv X pins σ (zsm H l) s
 | [],H,I,_,_=>I
 | x::l,H,I,hx,nd=>by
  rw [yau,ybp] at nd;obtain ⟨e1,e2,t,u,e3⟩:=hx x (.head _);refine zfW h1 h2 h3 h4 l _ (I.track e2 (yaq h1 e1) (ybj (yal h2 e1)) (fun z c q=>yar (yal (h3 z c q) e1)) (fun p hp=>yar (yal (h4 p hp) e1)) ?_) (fun y hy=>?_) nd.2
  ·exact ⟨by show (2:Nat)<=_;decide,[.int (x.2.1:Int) t,.int x.2.2 u],.cons ⟨t,rfl⟩ (.cons ⟨u,rfl⟩ .nil),_,e3,rfl,_,rfl⟩
  ·obtain ⟨f1,f2,f3⟩:=hx y (.tail _ hy);refine ⟨f1,?_,f3⟩;rw [zag (fun z=>nd.1 (yao.mpr ⟨y,hy,z⟩))];exact f2
noncomputable def zht(l a:Addr)(h:Heap):Prop:=h.IsItemsView l a
noncomputable def zpU(i:Nat):TE:=fun σ H Q=>∃(a:Addr) (kvs:List (Key×V)),σ[i]?=some (some (.ref a))/\H a=some (.dK kvs)/\∀l,H l=none->Q (.ref l) (upd H l (.ext (zht l a)))
def zlB{i:Nat}{x:Str}{p ap cp:Pos}(hn:PE X (.Name x p) (zmP i))(hb:attributeBase (.Name x p) "items" X.env (eval (.Name x p) X.env)=eval (.Name x p) X.env)(hln:(ap.endLine == cp.line)=true):PE X (.Call (.Attribute (.Name x p) "items" ap) [] [] cp) (zpU i):=by
 intro pins s σ H Q I h;obtain ⟨a,kvs,e1,e2,q⟩:=h;refine ydi hb rfl hln ycv PySem.F.slot_dict_items PySem.F.type_dict_items (thn (hn pins s σ H (fun v H1=>v=.ref a/\H1=H) I ⟨_,e1,rfl,rfl⟩) fun u s1 ⟨y,H1,I1,rx,ey,eH⟩=>?_);subst ey eH;obtain rfl:u=Value.ref a:=rx;obtain ⟨_,hd,vs,_,dd⟩:=ziM I1.hok (.inl e2);refine ⟨dd.typeIs,fun b q=>?_,?_⟩
 ·cases q;obtain ⟨ob,_,_,h1,h2,_⟩:=dd;exact ⟨ob,h1,h2.2.1⟩
 refine yb0 rfl (PySem.evalArgs_none ?_);refine call_meetsIn PySem.F.slot_dict_items dd.typeIs PySem.F.entry_dict_items (PySem.F.args_dict_items_1 _) (meets_dict_items (zaS X.prog X.w) a hd) ⟨⟨vs,dd⟩,?_⟩;refine ⟨.ref s1.heap.objs.size,_,I1.laid (t':=s1.toks) (o:=.ext (zht s1.heap.objs.size a)) (fun _ _ e=>yae _ e) (yah _) ?_,rfl,q _ (I1.hok.fresh (yah _))⟩;refine ⟨⟨_,yak _ rfl,rfl,rfl⟩,⟨_,yak _ rfl⟩,fun h1 h2 x k=>?_⟩;obtain ⟨o,ho,r⟩:=x;exact ⟨o,k o ho,r⟩
noncomputable def kvN(ps:List (Nat×Int)):List (Key×V):=ps.map fun x=>(.inl (x.1:Int),.int x.2)
def zl6{ps:List (Nat×Int)}{vs:List (Key×Value)}(r:KV (kvN ps) vs):vs.length=ps.length/\∀(j:Nat) (k:Key) (x:Value),vs[j]?=some (k,x)->∃n v u,(ps.map (·.1))[j]?=some n/\(ps.map (·.2))[j]?=some v/\x=.int v u/\k=.inl (n:Int):=by
 unfold KV kvN at r
 induction ps generalizing vs with
 | nil=>cases r;exact ⟨rfl,fun j k x h=>by cases h⟩
 | cons p ps ih =>
  rw [yau] at r
  cases r with
  | @cons a b as bs h t =>
   obtain ⟨l,g⟩:=ih t;refine ⟨congrArg Nat.succ l,fun j k x hj=>?_⟩
   cases j with
   | zero =>
    cases hj;obtain ⟨h1,u,h2⟩:=h;exact ⟨p.1,p.2,u,rfl,rfl,h2,h1.symm⟩
   | succ j=>exact g j k x hj
def zdE(hc:X.calm=true):zc2 X (.builtin "sorted") (fun xs H Q=>∃(v a:Addr) (ps:List (Nat×Int)),xs=[.ref v]/\H v=some (.ext (zht v a))/\H a=some (.dK (kvN ps))/\(ps.map (·.1)).Nodup/\(∀k∈ps.map (·.1),k<5)/\ps.length<=5 ∧
  ∀(as:List Addr) (p:List Nat) (B:Addr),as.length=ps.length->as.Nodup->(∀a∈as,H a=none/\a≠B)->H B=none->p.map (fun i=>(ps.map (·.1)).getD i 9)=zcU.filter (fun x=>decide (x∈ps.map (·.1)))->(∀i∈p,i<ps.length) →
   Q (.ref B) (upd (zsm H (as.zip ps)) B (.lst (p.map fun i=>.ref (as.getD i 0))))):=by
 intro pins s σ H xs us Q I r h;obtain ⟨v,a,ps,rfl,hv,ha,nd,h5,hl5,q⟩:=h;obtain ⟨u,rfl,rx⟩:=zeG r;cases rx;obtain ⟨hvw,_⟩:=I.hok v _ hv;obtain ⟨_,hd,vs,rel,dd⟩:=ziM I.hok (.inl ha);obtain ⟨ep,da⟩:=dd.dictAt;obtain ⟨lv,kv⟩:=zl6 rel;refine zf3 (knd:=zaS X.prog X.w) (kn:=ps.map (·.1)) (vn:=ps.map (·.2)) (I.ok.hd hc) hvw da (by rw [yaf,lv]) (fun j k x hj=>?_) nd h5 (by rw [yaf];exact hl5) fun hm h' tk e as p k1 k2 al ab pr rise p1 p2 hB=>?_
 ·obtain ⟨n,w,u,e1,e2,e3,rfl⟩:=kv j k x hj
  exact ⟨n,w,u,e1,e2,e3,fun key hk=>by
   rcases zay (show zhf (.inl (n:Int)) key=true from hk) with ⟨i,t,e,rfl⟩ | ⟨x,t,e,_⟩
   ·cases e;exact ⟨t,rfl⟩
   ·cases e⟩
 ·have al':as.length=ps.length:=by rw [al,yaf]
  have I1:Inv X pins σ H { s with heap:=hm,toks:=tk }:=I.kept k1
  have pz:∀x∈as.zip ps,s.heap.objs.size<=x.1/\H x.1=none/\ze8 hm x.1 x.2.1 x.2.2:=by
   intro x hx;obtain ⟨j,hj⟩:=ybv hx;obtain ⟨h1,h2⟩:=List.getElem?_zip_eq_some.mp hj;have hle:=ycM (ab x.1 (ya3 h1));obtain ⟨n,w,e1,e2,e3⟩:=pr j x.1 h1;rw [yas,h2] at e1 e2;cases e1;cases e2;exact ⟨hle,I.hok.fresh hle,e3⟩
  have ez:(as.zip ps).map (·.1)=as:=List.map_fst_zip (yc5 al');have I2:=zfW (n0:=s.heap.objs.size) I.sz I.lt (fun x c e=>by obtain ⟨v,cq⟩:=I.cell x c e;exact cq.lt) (fun p hp=>yan (I.pin p hp).1) (as.zip ps) H I1 pz (by rw [ez];exact List.Pairwise.imp (fun h=>yar h) rise)
  have hin:∀a∈as,a<hm.objs.size:=by
   intro a ha;obtain ⟨j,hj⟩:=ybv ha;obtain ⟨n,w,_,_,t,u,e3⟩:=pr j a hj;exact yan e3
  have q':=q as p hm.objs.size al' (List.Pairwise.imp (fun h=>yar h) rise) (fun a ha=>⟨I.hok.fresh (ycM (ab a ha)),yar (hin a ha)⟩) (I1.hok.fresh (yah _)) p1 (fun i hi=>by have:=p2 i hi;rwa [yaf] at this);refine ⟨.ref hm.objs.size,_,I2.laid (h':=h') (t':=tk) (o:=.lst (p.map fun i=>.ref (as.getD i 0))) k2 (yah _) ⟨?_,p.map fun i=>(as.map Value.ref).getD i Value.none,e,?_,hB⟩,rfl,q'⟩
  ·have:=congrArg List.length p1;rw [yaf] at this;rw [yaf,this];exact yaq (ybf _ _) (by decide)
  ·have go:∀l:List Nat,(∀i∈l,i<as.length)->Vals (l.map fun i=>V.ref (as.getD i 0)) (l.map fun i=>(as.map Value.ref).getD i Value.none):=by
    intro l
    induction l with
    | nil=>intro _;exact .nil
    | cons i l ih =>
     intro hl;refine .cons ?_ (ih fun j hj=>hl j (.tail _ hj));have hi:=hl i (.head _);show (as.map Value.ref).getD i Value.none=Value.ref (as.getD i 0);rw [yai,yai,yas,yad hi];rfl
   exact go p fun i hi=>by have:=p2 i hi;rw [yaf] at this;omega
end
end L2
namespace L2
open PySem PySem.Spec PyProof.Rows
section
variable{X:Cx}{pins:Z3}{σ:St}{s:Shared}{A:Around}{E:Z5}
def zxN{H:Hp}{a:Addr}{kvs:List (Key×V)}{k:Key}{v:V}{u r:Value}{Q:Unit->Shared->Prop}(I:Inv X pins σ H s)(e:H a=some (.dK kvs))(ry:zaE (kV k) u)(rv:zaE v r)(l:kvs.length<sizeLine)
  (h:∀s',Inv X pins σ (upd H a (.dK (zdW kvs k v))) s'->Q () s'):wpAny (model X.prog X.w) A (setItem (.ref a) u r) Q E s:=by
 obtain ⟨z,hd,vs,rel,dd⟩:=ziM I.hok (.inl e)
 have hz:vs.length<=sizeLine:=by rw [<-Paired.length rel];exact z
 have hl:(zdW kvs k v).length<=sizeLine:=by have:=zb5 kvs k v;omega
 refine wpAny_setItem_pairs (hsz:=hz) (zkg ry) dd fun h' dd' hs=>h _ ?_
 have he:∃q,h'.get? a=some q:=let ⟨q,_,_,hq,_⟩:=dd';⟨q,hq⟩
 exact zkI I (by rw [e];exact True.intro) hs he ⟨hl,hd,_,rel.put k rv,dd'⟩
noncomputable def zqE(td ty tv:TE):TS:=fun D σ H=>tv σ H fun v H1=>td σ H1 fun x H2=>ty σ H2 fun y H3=>∃(a:Addr) (kvs:List (Key×V)) (k:Key),x=.ref a/\y=kV k/\H3 a=some (.dK kvs)/\kvs.length<sizeLine/\D.nx σ (upd H3 a (.dK (zdW kvs k v)))
def zlu{o i value:Expr}{pos pos':Pos}{td ty tv:TE}(ho:PE X o td)(hi:PE X i ty)(hv:PE X value tv)(hs:swapsWith value (some (.Subscript o i pos')) pos.line X.env=pure false):PS X (.Assign [.Subscript o i pos'] value pos) (zqE td ty tv):=by
 intro pins s σ H D I h;refine wpAny_Assign_Subscript (thn (hv pins s σ H _ I h) fun r s1 ⟨v,H1,I1,rv,q1⟩=>thn (ho pins s1 σ H1 _ I1 q1) fun u s2 ⟨x,H2,I2,rx,q2⟩=>thn (hi pins s2 σ H2 _ I2 q2) fun iv s3 ⟨y,H3,I3,ry,a,kvs,k,ex,ey,ha,hl,q3⟩=>?_) hs;subst ex ey;obtain rfl:u=Value.ref a:=rx;exact zxN I3 ha ry rv hl fun s4 I4=>⟨σ,_,I4,q3⟩
noncomputable def zpW:TE:=fun _ H Q=>∀p,H p=none->Q (.ref p) (upd H p (.dK []))
def zfo{pos:Pos}:PE X (.Dict [] [] pos) zpW:=fun pins s σ H Q I h =>
 wpAny_Dict_empty ⟨.ref s.heap.objs.size,_,I.laid (a:=s.heap.objs.size) (o:=.dK []) (t':=s.toks) (fun _ _ q=>yae _ q) (yah _) ⟨yaL _,yc2 (ybj I.big),[],.nil,Heap.DictOf.new s.heap⟩,rfl,h _ (I.hok.fresh (yah _))⟩
end
end L2
namespace S2
open PySem PySem.Spec PyProof.Rows L2
noncomputable def ziZ:List (D×D)->Option (List (Int×Int))
 | []=>some []
 | (.int a,.int b)::ds=>(ziZ ds).map ((a,b)::·)
 | _=>none
theorem zjG:∀{ds:List (D×D)} {ps:List (Int×Int)},ziZ ds=some ps->ds=dsI ps
 | [],ps,h=>by cases h;rfl
 | (.int a,.int b)::ds,ps,h=>by
  cases e:ziZ ds with
  | none=>rw [show ziZ ((.int a,.int b)::ds)=(ziZ ds).map ((a,b)::·) from rfl,e] at h;cases h
  | some qs =>
   rw [show ziZ ((.int a,.int b)::ds)=(ziZ ds).map ((a,b)::·) from rfl,e] at h;cases h;rw [zjG e];rfl
theorem zd2:∀ps:List (Int×Int),ziZ (dsI ps)=some ps
 | []=>rfl
 | p::ps=>by
  show (ziZ (dsI ps)).map _=_;rw [zd2 ps];rfl
noncomputable def zme:D->Option (List (Int×Int)) | .dic ((.non,.non)::ds)=>ziZ ds | _=>none
def zmd{d:D}{ps:List (Int×Int)}(h:zme d=some ps):d=zaH ps:=by
 unfold zme at h;split at h
 ·rw [zjG h];rfl
 ·cases h
noncomputable def zdT(i:Nat)(ρ:Env):Option (Bool×List (Int×Int)):=match ρ[i]? with | some (some (o,d))=>(zme d).map fun ps=>(o,ps) | _=>none
def zd0{i:Nat}{ρ:Env}{o:Bool}{ps:List (Int×Int)}(h:zdT i ρ=some (o,ps)):ρ[i]?=some (some (o,zaH ps)):=by
 unfold zdT at h;split at h
 ·rename_i o' d e
  cases hd:zme d with
  | none=>rw [hd] at h;cases h
  | some x=>rw [hd] at h;cases h;rw [e,zmd hd]
 ·cases h
noncomputable def zgN(ps:List (Int×Int))(k v:Int):List (Int×Int):=if (ps.any fun p=>decide (p.1=k)) then ps.map (fun p=>if p.1=k then (p.1,v) else p) else ps++[(k,v)]
noncomputable def zbu(ps:List (Int×Int))(k:Int):Option Int:=(ps.find? fun p=>decide (p.1=k)).map (·.2)
def zoT{ps:List (Int×Int)}{k v:Int}:kvI (zgN ps k v)=zdW (kvI ps) (.inl k) (.int v):=by
 have ea:((kvI ps).any fun kv=>decide (kv.1=(.inl k:Key)))=ps.any fun p=>decide (p.1=k):=by
  unfold kvI;rw [List.any_map];congr 1;funext p;show decide ((.inl p.1:Key)=.inl k)=decide (p.1=k);rw [ybX];exact ⟨fun h=>Sum.inl.inj h,fun h=>by rw [h]⟩
 unfold zgN zdW;rw [ea];split
 ·unfold kvI;rw [yaT,yaT];apply yaO;intro p _;show (fun x:Int×Int=>((.inl x.1:Key),V.int x.2)) (if p.1=k then (p.1,v) else p)=if (.inl p.1:Key)=.inl k then ((.inl p.1:Key),V.int v) else (.inl p.1,.int p.2)
  by_cases h:p.1=k
  ·rw [if_pos h,if_pos (by rw [h])]
  ·rw [if_neg h,if_neg (fun z=>h (Sum.inl.inj z))]
 ·unfold kvI;rw [ybP];rfl
theorem zhe{k:Int}:∀ps:List (Int×Int),zc3 (kvI ps) (.inl k)=(zbu ps k).map V.int
 | []=>rfl
 | p::ps=>by
  show zc3 ((.inl p.1,.int p.2)::kvI ps) (.inl k)=_;unfold zbu;rw [ybh]
  by_cases h:p.1=k
  ·rw [zaZ (by show (.inl p.1:Key)=_;rw [h]),yaH h];rfl
  ·rw [za0 (fun z=>h (Sum.inl.inj z)),yaE h];exact zhe ps
def Rel.dcn{cl:Cf}{B:Base}{σ:St}{w:Wd}{ρ:Env}{S:Sto}{i:Nat}{o:Bool}{ps:List (Int×Int)}(R:Rel cl B σ w ρ S)(h:ρ[i]?=some (some (o,zaH ps))):∃a,σ[i]?=some (some (.ref a))/\(o=true->w.ow a=some (.slot i))/\w.H a=some (.dK (kvI ps)):=by
 have hinj:∀{qs:List (Int×Int)},dsI qs=dsI ps->qs=ps:=fun {qs} e=>by
  have:=congrArg ziZ e;rw [zd2,zd2] at this;exact Option.some.inj this
 obtain ⟨v,e1,r⟩:=R.slots i o _ h
 cases o with
 | false =>
  have r':Shd cl w v (.dic ((.non,.non)::dsI ps)):=r;generalize hq:dsI ps=q at r'
  cases r' with
  | dicK _ _ z=>cases z
  | dicN e _=>rw [hinj hq.symm] at e;exact ⟨_,e1,(fun z=>nomatch z),e⟩
 | true =>
  obtain ⟨a,o,rfl,h1,h2,t⟩:=r;have t':Top cl w o (.dic ((.non,.non)::dsI ps)):=t;generalize hq:dsI ps=q at t'
  cases t' with
  | dicK z=>cases z
  | dicN=>rw [hinj hq.symm] at h2;exact ⟨a,e1,fun _=>h1,h2⟩
noncomputable def zfH:Fe:=fun _ S=>.ok (zaH []) S
section
variable{X:Cx}{cl:Cf}{E:St->XK}{pos:Pos}
def zgX:PE X (.Dict [] [] pos) (tN cl E zfH):=PE.imp zfo fun σ H Q ⟨B,w,ρ,S,e,R,q⟩=>by
 subst e;intro p hp;exact q p (.dK []) w R (Fut.refl _) hp (.dicN (ps:=[]))
noncomputable def zeO(i:Nat)(f g:Fe):Fe:=fun ρ S=>match zdT i ρ with
 | some p=>(f ρ S).bind fun k S1=>(g ρ S1).bind fun z S2=>(match k with | .int j=>.ok (((zbu p.2 j).map D.int).getD z) S2 | _=>.bad)
 | none=>.bad
noncomputable def zfg(i:Nat)(fk fe:Fe):Fs:=fun ρ S=>match zdT i ρ with
 | some (true,ps)=>(match fe ρ S with
  | .ok d S1=>(match fk ρ S1 with
   | .ok k S2=>(match k,d with
    | .int j,.int v=>if zaN ps.length then .nx (ρ.set i (some (true,zaH (zgN ps j v)))) S2 else .bad
    | _,_=>.bad)
   | .exc c S2=>.ex c ρ S2 | .bad=>.bad)
  | .exc c S1=>.ex c ρ S1 | .bad=>.bad)
 | _=>.bad
variable{own:Bool}{a b e:Expr}{f g fe fk:Fe}{pos':Pos}{i:Nat}{x:Str}{ap cp:Pos}
def zoe(hu:X.A.units+1<cLine)(hN:X.N[i]?=some x)(hv:Vis X.env.scope x)(hd:(x == ("__debug__":Str))=false)(hcd:(x == ("__classdict__":Str))=false)(hf:PE X a (tE cl E f))(hg:PE X b (tE cl E g))(m:M2 X (.Name x pos') "get" ap a b cp) :
  PE X (.Call (.Attribute (.Name x pos') "get" ap) [a,b] [] cp) (tE cl E (zeO i f g)):=by
 refine PE.imp (zhM (zbl hN hv hd hcd) hf hg m) ?_;rintro σ H Q ⟨B,w,ρ,S,rfl,R,q⟩;unfold zeO at q
 cases hs:zdT i ρ with
 | none=>rw [hs] at q;exact q.elim
 | some p =>
  obtain ⟨o,ps⟩:=p;rw [hs] at q;have hρ:=zd0 hs;obtain ⟨ad,e1,h1,h2⟩:=R.dcn hρ;refine ⟨_,e1,ad,_,rfl,h2,B,w,ρ,S,rfl,R,?_⟩
  cases hfv:f ρ S with
  | bad=>rwa [hfv] at q
  | exc c S1=>rwa [hfv] at q
  | ok k S1 =>
   rw [hfv] at q;dsimp only [Out.bind] at q;intro y w1 R1 F1 sy;refine ⟨B,w1,ρ,S1,rfl,R1,?_⟩
   cases hgv:g ρ S1 with
   | bad=>rwa [hgv] at q
   | exc c S2=>rw [hgv] at q;exact fun w2 R2 F2=>q w2 R2 (F1.trans F2)
   | ok z S2 =>
    rw [hgv] at q;dsimp only at q;intro zv w2 R2 F2 sz
    cases k with
    | int j =>
     cases sy;dsimp only at q;obtain ⟨ad',e1',_,h2'⟩:=R2.dcn hρ;rw [e1] at e1';cases e1';refine ⟨.inl j,rfl,h2',?_⟩;rw [zhe]
     cases hl:zbu ps j with
     | none=>rw [hl] at q;exact q zv w2 R2 (F1.trans F2) sz
     | some n=>rw [hl] at q;exact q (.int n) w2 R2 (F1.trans F2) (.int n)
    | _=>exact q.elim
def znT(hu:X.A.units+1<cLine)(hN:X.N[i]?=some x)(hv:Vis X.env.scope x)(hd:(x == ("__debug__":Str))=false)(hcd:(x == ("__classdict__":Str))=false)(hk:PE X a (tE cl E fk))(he:PE X e (tE cl E fe))(sw:swapsWith e (some (.Subscript (.Name x pos') a ap)) pos.line X.env=pure false) :
  PS X (.Assign [.Subscript (.Name x pos') a ap] e pos) (tS cl E own (zfg i fk fe)):=by
 refine PS.imp (zlu (zbl hN hv hd hcd) hk he sw) ?_;rintro De σ H ⟨B,w,ρ,S,rfl,R,q⟩;unfold zfg at q
 cases hs:zdT i ρ with
 | none=>rw [hs] at q;exact q.elim
 | some p =>
  obtain ⟨o,ps⟩:=p
  cases o with
  | false=>rw [hs] at q;exact q.elim
  | true =>
   rw [hs] at q;have hρ:=zd0 hs;refine ⟨B,w,ρ,S,rfl,R,?_⟩
   cases hev:fe ρ S with
   | bad=>rwa [hev] at q
   | exc c S1=>rw [hev] at q;exact fun w' R' F'=>q σ w' R' F'
   | ok d S1 =>
    rw [hev] at q;intro v w1 R1 F1 sv;obtain ⟨ad,e1,_,_⟩:=R1.dcn hρ;refine ⟨_,e1,B,w1,ρ,S1,rfl,R1,?_⟩;dsimp only at q
    cases hkv:fk ρ S1 with
    | bad=>rwa [hkv] at q
    | exc c S2=>rw [hkv] at q;exact fun w' R' F'=>q σ w' R' (F1.trans F')
    | ok k S2 =>
     rw [hkv] at q;intro y w2 R2 F2 sy;dsimp only at q
     cases k with
     | int j =>
      cases d with
      | int n =>
       dsimp only at q;split at q
       ·rename_i hsm;cases sy;cases sv;obtain ⟨ad',e1',ho,h2'⟩:=R2.dcn hρ;rw [e1] at e1';cases e1'
        have hlen:(kvI ps).length<sizeLine:=by unfold kvI;rw [yaf];exact zhB hsm
        refine ⟨ad,_,.inl j,rfl,rfl,h2',hlen,?_⟩;rw [<-zoT];have tt:Top cl w2 (.dK (kvI (zgN ps j n))) (zaH (zgN ps j n)):=.dicN;have R3:=R2.mut (d0:=.non) e1 (ho rfl) tt;exact q σ _ R3 ((F1.trans F2).trans (zcj (by rw [ho rfl];exact yaC _)))
       ·exact q.elim
      | _=>exact q.elim
     | _=>exact q.elim
end
end S2
namespace S2
open PySem PySem.Spec PyProof.Rows L2 ST
noncomputable def prI(x:Nat×Int):D:=.tup [.int (x.1:Int),.int x.2]
noncomputable def zmL(w:Wd):List (Addr×Nat×Int)->Wd | []=>w | x::l=>zmL (w.add x.1 (.tup [.int (x.2.1:Int),.int x.2.2])) l
theorem zie{cl:Cf}{B:Base}{σ:St}{ρ:Env}{S:Sto}:∀(l:List (Addr×Nat×Int)) (w:Wd),Rel cl B σ w ρ S->(∀x∈l,w.H x.1=none)->(l.map (·.1)).Nodup->Rel cl B σ (zmL w l) ρ S/\Fut w (zmL w l)/\(zmL w l).H=zsm w.H l/\(∀b,(∀x∈l,x.1≠b)->(zmL w l).H b=w.H b)/\∀x∈l,Shd cl (zmL w l) (.ref x.1) (prI x.2)
 | [],w,R,_,_=>⟨R,Fut.refl _,rfl,fun _ _=>rfl,fun x hx=>nomatch hx⟩
 | x::l,w,R,hx,nd=>by
  rw [yau,ybp] at nd;have h0:=hx x (.head _);have gr:=zan (w:=w) h0 (.tup [V.int (x.2.1:Int),.int x.2.2])
  obtain ⟨r1,r2,r3,r4,r5⟩:=zie l (w.add x.1 (.tup [.int (x.2.1:Int),.int x.2.2])) (R.grow gr) (fun y hy=>by
   show upd w.H x.1 _ y.1=none;rw [zag (fun z=>nd.1 (yao.mpr ⟨y,hy,z⟩))]
   exact hx y (.tail _ hy)) nd.2
  refine ⟨r1,gr.fut.trans r2,r3,fun b hb=>?_,fun y hy=>?_⟩
  ·rw [show zmL w (x::l)=zmL (w.add x.1 _) l from rfl,r4 b fun y hy=>hb y (.tail _ hy)];exact zag (fun z=>hb x (.head _) z.symm)
  ·rcases yat.mp hy with rfl | hy
   ·exact (Shd.newT h0 (.cons (.int _) (.cons (.int _) .nil))).up r2
   ·exact r5 y hy
noncomputable def zpD(ps:List (Int×Int)):Option (List D) :=
 if ps.all (fun p=>decide (0<=p.1/\p.1<5))&&decide ((ps.map (·.1)).Nodup)&&decide (ps.length<=5) then some ((zcU.filter fun n:Nat=>decide ((n:Int)∈ps.map (·.1))).map fun n:Nat=>prI (n,(zbu ps (n:Int)).getD 0)) else none
noncomputable def zpf(i:Nat):Fe:=fun ρ S=>match zdT i ρ with
 | some p=>(match zpD p.2 with | some l=>.ok (.lst l) S | none=>.bad)
 | none=>.bad
section
variable{X:Cx}{cl:Cf}{E:St->XK}{i:Nat}{x:Str}{p px ap cp pos:Pos}
theorem zj8:∀{ps:List (Int×Int)} {j:Nat} {a b:Int},(ps.map (·.1)).Nodup->ps[j]?=some (a,b)->zbu ps a=some b
 | q::ps,0,a,b,nd,h=>by
  cases h;unfold zbu;rw [ybh,yaH rfl];rfl
 | q::ps,j+1,a,b,nd,h=>by
  rw [yau,ybp] at nd;have hm:(a,b)∈ps:=ya3 h;have hne:¬ q.1=a:=fun z=>nd.1 (z ▸ yao.mpr ⟨(a,b),hm,rfl⟩)
  unfold zbu;rw [ybh,yaE hne];exact zj8 nd.2 h
def zqv(hc:X.calm=true)(hg:Gl X "sorted")(hm:X.mg "sorted" = none)(hN:X.N[i]?=some x)(hv:Vis X.env.scope x)(hd:(x == ("__debug__":Str))=false)(hcd:(x == ("__classdict__":Str))=false)(hln:(ap.endLine == cp.line)=true) :
  PE X (.Call (.Name "sorted" p) [.Call (.Attribute (.Name x px) "items" ap) [] [] cp] [] pos) (tN cl E (zpf i)):=by
 refine PE.imp (zdc (zdE hc) hg hm (by decide +kernel) (za9 (zlB (zbl hN hv hd hcd) rfl hln) zch)) ?_;rintro σ H Q ⟨B,w,ρ,S,rfl,R,q⟩;unfold zpf at q
 cases hs:zdT i ρ with
 | none=>rw [hs] at q;exact q.elim
 | some pp =>
  obtain ⟨o,ps⟩:=pp;rw [hs] at q;dsimp only at q;obtain ⟨ad,e1,_,h2⟩:=R.dcn (zd0 hs)
  cases hr:zpD ps with
  | none=>rw [hr] at q;exact q.elim
  | some l =>
   rw [hr] at q;dsimp only at q;unfold zpD at hr;split at hr
   ·rename_i hb;rw [yab,yab,yay,yay,ybk] at hb;obtain ⟨⟨hb1,nd⟩,hl5⟩:=hb;cases hr
    have ek:kvN (ps.map fun y=>(y.1.toNat,y.2))=kvI ps:=by
     unfold kvN kvI;rw [yaT];apply yaO;intro y hy;have:=yaj (hb1 y hy);show ((.inl ((y.1.toNat:Nat):Int):Key),V.int y.2)=(.inl y.1,.int y.2);rw [Int.toNat_of_nonneg this.1]
    have em:(ps.map fun y=>(y.1.toNat,y.2)).map (·.1)=ps.map fun y=>y.1.toNat:=by rw [yaT];rfl
    refine ⟨ad,kvI ps,e1,h2,fun v hv0=>⟨v,ad,ps.map fun y=>(y.1.toNat,y.2),rfl,zam,?_,?_,?_,by rw [yaf];exact hl5,fun as pm B' al and' fr hB p1 p2=>?_⟩⟩
    ·rw [zag (zai h2 hv0),h2,ek]
    ·rw [em];unfold List.Nodup at nd ⊢;rw [ycf] at nd ⊢;refine ybO (fun {a b} ha hb' h z=>h ?_) nd;have h1:=(yaj (hb1 a ha)).1;have h3:=(yaj (hb1 b hb')).1;omega
    ·rw [em];intro k hk;obtain ⟨y,hy,rfl⟩:=yao.mp hk;have:=yaj (hb1 y hy);omega
    ·have al':as.length=ps.length:=by rw [al,yaf]
     have gr0:=zan (w:=w) hv0 (.ext (zht v ad));have ez:((as.zip (ps.map fun y=>(y.1.toNat,y.2))).map (·.1))=as:=List.map_fst_zip (yc5 al);obtain ⟨r1,r2,r3,r4,r5⟩:=zie (as.zip (ps.map fun y=>(y.1.toNat,y.2))) (w.add v (.ext (zht v ad))) (R.grow gr0) (fun y hy=>(fr y.1 (ez ▸ yao.mpr ⟨y,hy,rfl⟩)).1) (by rw [ez];exact and');show Q (.ref B') (upd (zsm (w.add v (.ext (zht v ad))).H _) B' _);rw [<-r3];refine q B' _ _ r1 (gr0.fut.trans r2) ?_ (.lst ?_)
     ·rw [r4 B' fun y hy=>(fr y.1 (ez ▸ yao.mpr ⟨y,hy,rfl⟩)).2];exact hB
     ·have ef:(zcU.filter fun n:Nat=>decide ((n:Int)∈ps.map (·.1)))=pm.map fun i=>((ps.map fun y=>(y.1.toNat,y.2)).map (·.1)).getD i 9:=by
       rw [p1,em];apply ycJ;intro n _;rw [ybX,yao,yao];constructor
       ·rintro ⟨y,hy,e⟩;exact ⟨y,hy,by omega⟩
       ·rintro ⟨y,hy,e⟩;have:=yaj (hb1 y hy);exact ⟨y,hy,by omega⟩
      rw [ef,yaT];generalize hW:zmL (w.add v (.ext (zht v ad))) (as.zip (ps.map fun y=>(y.1.toNat,y.2)))=W at *
      have go:∀l:List Nat,(∀i∈l,i<ps.length)->Shds cl W (l.map fun i=>V.ref (as.getD i 0)) (l.map ((fun n:Nat=>prI (n,(zbu ps (n:Int)).getD 0))∘fun i=>((ps.map fun y=>(y.1.toNat,y.2)).map (·.1)).getD i 9)):=by
       intro l
       induction l with
       | nil=>intro _;exact .nil
       | cons i l ih =>
        intro hl;refine .cons ?_ (ih fun j hj=>hl j (.tail _ hj));have hi:=hl i (.head _)
        have hi':i<as.length:=by rw [al'];exact hi
        have ep:ps[i]?=some ps[i]:=yad hi;have e0:=yaj (hb1 ps[i] (yba hi));have z:=r5 (as[i],ps[i].1.toNat,ps[i].2) (ya3 (i:=i) (List.getElem?_zip_eq_some.mpr ⟨yad hi',by rw [yas,ep];rfl⟩))
        have ea:as.getD i 0=as[i]:=by rw [yai,yad hi'];rfl
        have eb:((ps.map fun y=>(y.1.toNat,y.2)).map (·.1)).getD i 9=ps[i].1.toNat:=by rw [em,yai,yas,ep];rfl
        show Shd cl W (.ref (as.getD i 0)) (prI ((((ps.map fun y=>(y.1.toNat,y.2)).map (·.1)).getD i 9),(zbu ps ((((ps.map fun y=>(y.1.toNat,y.2)).map (·.1)).getD i 9:Nat):Int)).getD 0));rw [ea,eb,Int.toNat_of_nonneg e0.1,zj8 (a:=ps[i].1) (b:=ps[i].2) nd ep];exact z
      exact go pm fun i hi=>by have:=p2 i hi;rwa [yaf] at this
   ·cases hr
end
end S2
namespace L2
open PySem PySem.Spec PyProof.Rows
def zjW{X:Cx}:OpR X (compareOp .NotIn) (fun x y H Q=>∃a kvs k,y=.ref a/\x=kV k/\H a=some (.dK kvs)/\Q (.bl (zc3 kvs k).isNone) H):=by
 intro pins s σ H x y v u Q I rx ry h;obtain ⟨a,kvs,k,rfl,rfl,e,q⟩:=h;obtain rfl:u=Value.ref a:=ry;obtain ⟨z,hd,vs,rel,dd⟩:=ziM I.hok (.inl e);refine wpAny_notIn_of (zkg rx) hd dd.mapOf ?_;rw [<-(rel.val k).isSome_eq];refine ⟨.bl _,H,I.tok _,?_,q⟩;show Value.bool _=Value.bool _
 cases zc3 kvs k<;>rfl
end L2
namespace S2
open PySem PySem.Spec PyProof.Rows L2
noncomputable def zfG(i:Nat)(f:Fe):Fe:=fun ρ S=>match zdT i ρ with
 | some p=>(f ρ S).bind fun k S1=>(match k with | .int j=>.ok (.bl (zbu p.2 j).isNone) S1 | _=>.bad)
 | none=>.bad
section
variable{X:Cx}{cl:Cf}{E:St->XK}{a:Expr}{f:Fe}{i j:Nat}{x y:Str}{px py pos pt pt2 p1 p2:Pos}{own:Bool}{kt k2:Nat}
def zng(hlt:True)(σ:St)(H:Hp)(Q:VK)(q:tE cl E (zfG i f) σ H Q) :
  tOp (fun x y H Q=>∃a kvs k,y=.ref a/\x=kV k/\H a=some (.dK kvs)/\Q (.bl (zc3 kvs k).isNone) H) (tE cl E f) (zmP i) σ H Q:=by
 obtain ⟨B,w,ρ,S,rfl,R,q⟩:=q;refine ⟨B,w,ρ,S,rfl,R,?_⟩;unfold zfG at q
 cases hs:zdT i ρ with
 | none=>rw [hs] at q;exact q.elim
 | some p =>
  obtain ⟨o,ps⟩:=p;rw [hs] at q;dsimp only at q
  cases hf:f ρ S with
  | bad=>rwa [hf] at q
  | exc c S1=>rwa [hf] at q
  | ok k S1 =>
   rw [hf] at q;dsimp only [Out.bind] at q;intro v w1 R1 F1 h1;obtain ⟨ad,e1,_,h2⟩:=R1.dcn (zd0 hs)
   cases k with
   | int n =>
    cases h1;refine ⟨_,e1,ad,_,.inl n,rfl,rfl,h2,?_⟩;rw [zhe,Option.isNone_map];exact q (.bl _) w1 R1 F1 (.bl _)
   | _=>exact q.elim
def zob(hN:X.N[i]?=some x)(hv:Vis X.env.scope x)(hd:(x == ("__debug__":Str))=false)(hcd:(x == ("__classdict__":Str))=false)(ha:PE X a (tE cl E f)):PE X (.Compare a [.NotIn] [.Name x px] pos) (tE cl E (zfG i f)) :=
 PE.imp (zg7 zjW ha (zbl hN hv hd hcd) rfl) (zng trivial)
def znO(hN:X.N[i]?=some x)(hv:Vis X.env.scope x)(hd:(x == ("__debug__":Str))=false)(hcd:(x == ("__classdict__":Str))=false)(ha:PE X a (tE cl E f)):PT X (.Compare a [.NotIn] [.Name x px] pos) (tTr cl E (zfG i f)) :=
 PT.imp (zg6 zjW ha (zbl hN hv hd hcd) rfl) fun _ _ _ q=>zng trivial _ _ _ (zfX q)
end
end S2
namespace L2
open PySem PySem.Spec PyProof.Rows
def ziJ(l:Addr)(items:Array Value)(n:Nat)(b:Addr)(items2:Array Value)(hc0:¬(!items.isEmpty&&Builtin.List.listTooLong (items.size+items2.size))=true)(hc1:items.size<=sizeLine)(hs2:items.size+items2.size<=sizeLine+1) :
  Meets (Builtin.«list.extend» ⟨[.ref l,.ref b],[]⟩) (fun _ R s=>s.heap.get? l=some { cls:=.type "list",dict:=none,data:=.seq items n,slots:=#[] }/\IsTup s.heap b items2/\R (.ok (.ret Value.none)) { s with heap:=s.heap.update l (Obj.mapSeq fun x=>x++items2),toks:=s.toks }) :=
 .of_wp fun prog w A R s h=>by
  obtain ⟨hl,⟨o,ho,hc,n2,hd⟩,h⟩:=h
  have hz':(items++items2).size<=sizeLine+1:=by rw [Array.size_append];exact hs2
  show wpAny _ A.in1 (Builtin.List.listExtendWith (.ref l) (.ref b) .none) _ _ s;unfold Builtin.List.listExtendWith;refine yaa (ybH ⟨o,ho,hc⟩ ?_)
  have h1:(Builtin.List.listSameRef (.ref l) (.ref b)||Value.type "tuple" == Value.type "list" || Value.type "tuple" == Value.type "tuple")=true:=by simp
  simp only [h1,yb4];refine yaa ?_;unfold Builtin.List.listItems;refine yaa (ycK ho hd (yac ?_));refine yaa ?_;refine yaa (ycK hl rfl (yac ?_));rw [if_neg hc0];show wpAny _ A.in1 (updateSeq l (·++items2) >>= fun _=>ret .none) _ _ s;refine yaa (wpAny_updateSeq hl rfl ?_ hc1 hz');exact yac ⟨_,rfl,h⟩
variable{X:Cx}
noncomputable def zlq:V->List V->Hp->VK->Prop:=fun x vs H Q=>∃l b xs zs,x=.ref l/\vs=[.ref b]/\H l=some (.lst xs)/\H b=some (.tup zs)/\xs.length+zs.length<=sizeLine/\Q .non (upd H l (.lst (xs++zs)))
def ziC:MtM X "list.extend" zlq:=by
 intro pins s σ H x vs v us Q I rx rv h;obtain ⟨l,b,xs,zs,rfl,rfl,hH,hB,hz,q⟩:=h;cases rx;obtain ⟨u,rfl,ru⟩:=rv.one;cases ru;obtain ⟨z,its,n,r,hl,e⟩:=I.lstM hH;obtain ⟨its2,r2,e2,z2⟩:=I.tuple (SqT.of hB);have hl2:zs.length=its2.length:=r2.length
 have hsz:its.toArray.size+its2.toArray.size<=sizeLine:=by rw [yag,yag];omega
 have hlong:¬ (!its.toArray.isEmpty&&Builtin.List.listTooLong (its.toArray.size+its2.toArray.size))=true:=by
  rw [zfu hsz,Bool.and_false];exact yaU
 refine ycc F.slot_list_extend ⟨_,e,rfl⟩ F.entry_list_extend (F.args_list_extend_2 _ _)
  (ziJ l its.toArray n b its2.toArray hlong (by rw [yag];omega) (by omega)) ⟨e,e2,?_⟩
 refine ⟨.non,_,I.lset (its':=its++its2) hH e (by simp) (r.append r2) ?_,rfl,q⟩;rw [yav];omega
end L2
namespace S2
open PySem PySem.Spec PyProof.Rows L2
noncomputable def zgZ(i:Nat)(fe:Fe):Fs:=fun ρ S=>match ρ[i]? with
 | some (some (true,.lst l))=>(match fe ρ S with
  | .ok (.tup k) S'=>if zaN (l.length+k.length) then .nx (ρ.set i (some (true,.lst (l++k)))) S' else .bad
  | .ok _ _=>.bad
  | .exc c S'=>.ex c ρ S' | .bad=>.bad)
 | _=>.bad
section
variable{X:Cx}{cl:Cf}{E:St->XK}{own:Bool}{e:Expr}{f:Fe}{pos pos':Pos}
def znY{i:Nat}{x:Str}{ap cp:Pos}(hN:X.N[i]?=some x)(hv:Vis X.env.scope x)(hd:(x == ("__debug__":Str))=false)(hcd:(x == ("__classdict__":Str))=false)(he:PE X e (tH cl E f))
  (hpl:zbd e=true) (hln:(ap.endLine == cp.line)=true):PS X (.Expr (.Call (.Attribute (.Name x pos') "extend" ap) [e] [] cp) pos) (tS cl E own (zgZ i f)):=by
 refine PS.imp (zfk (zlI (es:=[]) ybS PySem.F.slot_list_extend PySem.F.type_list_extend ziC (zbl hN hv hd hcd) (za9 he zch (zaB hpl)) (hfew:=zev (by simp [hpl]) (by simp)) (hline:=hln) (hs:=zaB hpl) (hplain:=rfl))) ?_;rintro De σ H ⟨B,w,ρ,S,rfl,R,q⟩;unfold zgZ at q;split at q
 ·rename_i l hl;obtain ⟨a,xs,e1,h1,h2,t⟩:=R.list hl;refine ⟨_,e1,.inl ⟨rfl,_,SqL.of h2⟩,B,w,ρ,S,rfl,R,?_⟩
  cases hf:f ρ S with
  | bad=>rwa [hf] at q
  | exc c S1=>rw [hf] at q;exact fun w' R' F'=>q σ w' R' F'
  | ok d S1 =>
   rw [hf] at q;intro v w' R' F' h'
   cases d with
   | tup k =>
    dsimp only at q
    cases hz:zaN (l.length+k.length) with
    | false=>rw [hz,if_neg (by decide)] at q;exact q.elim
    | true =>
     rw [hz,if_pos rfl] at q;obtain ⟨a',xs',e1',h1',h2',t'⟩:=R'.list hl;rw [e1] at e1';cases e1';obtain ⟨b,zs,rfl,eb,_,rb⟩:=(h'.top R').tupI;refine ⟨a,b,xs',zs,rfl,rfl,h2',eb,by rw [t'.length,rb.length];exact zaM hz,?_⟩;exact q σ (w'.mut a (.lst (xs'++zs))) (R'.mut (d0:=.non) e1 h1' (.lst (t'.append rb))) (F'.trans (zcj (by rw [h1'];exact yaC _)))
   | _=>exact q.elim
 ·exact q.elim
end
end S2
namespace S2
open PySem PySem.Spec PyProof.Rows L2
structure FnI where
 ar:Nat
 own:Bool
 run:List D->Sto->Out D
structure ObE where
 cur:Str
 fk:Str->Str->Bool
 df:Str->Bool
 mt:Str->Option (Str×FnI)
 mks:Str->Option (List D×FnI)
structure Genv where
 con:Str->Option D
 fn:Str->Option FnI
 blt:Str->Bool
 exc:Str->Bool
 und:Str->Str->Bool
 isx:Str->Str->Option Bool
 ob:ObE
 ds:Str->Bool
abbrev bmV:List Value:=[.type "ValueError",.type "Exception",.type "BaseException",.type "object"]
structure GOk(cl:Cf)(G:Genv)(P:Program)(wo:PySem.World)(K:PySem.W.Frag)(mg:Z6)(base:Heap)(k:Nat):Prop where
 con:∀x d,G.con x=some d->∃v u,mg x=some u/\zaE v u/\∀w,Shd cl w v d
 fn:∀x fi,G.fn x=some fi->∃f fd ps,mg x=some (.ref f)/\PySem.W.keepIn K (.ref f)=true/\zcH K fd ps []/\FnOk P wo K mg base (CXE P wo) k f fd ps (zin cl fi.ar fi.own fi.run)
 blt:∀x,G.blt x=true->mg x=none
 exc:∀c,G.exc c=true->mg c=some (.ref (cl c))/\PySem.W.excIn K (cl c) bmV "ValueError.__new__" = true
 und:∀c C,G.und c C=true->L2.zpx K (cl c) (cl C)
 isx:∀c C b,G.isx c C=some b->PySem.W.ExcCls K (cl c)/\PySem.W.kitOne K (.ref (cl c)) (zw4 cl C)=some b
 fk:∀c f,G.ob.fk c f=true->zk5 cl c f
 mt:∀m c fi,G.ob.mt m=some (c,fi)->∃f fd ps,Cls K (cl c)/\Meth K (cl c) m f/\zcH K fd ps []/\FnOk P wo K mg base (CXE P wo) k f fd ps (zin cl fi.ar fi.own fi.run)
 mks:∀c dds fi,G.ob.mks c=some (dds,fi)->∃f fd ps dvs ds k',k'+1<=k/\mg c=some (.ref (cl c))/\Mk K (cl c) f/\zcH K fd ps []/\zcH K fd ps ds/\Vals dvs ds/\(∀w,Shds cl w dvs dds)/\FnOk P wo K mg base (CXE P wo) k' f fd ps (zin cl fi.ar false fi.run)
noncomputable abbrev Names:=List (Str×NameKind)
structure Gx(cl:Cf)(G:Genv)(k:Nat)(X:Cx)(nm:Names)(N:List Str)(E:St->XK):Prop where
 gok:GOk cl G X.prog X.w X.K X.mg X.base k
 room:Room k X.A
 calm:X.calm=true
 pass:zcv (CXE X.prog X.w) X E
 eN:X.N=N
 kk:X.K=cl.K
 pp:X.prog=cl.P
 ww:X.w=cl.wo
 nd:N.Nodup
 vis:∀x kd,nm.lookup x=some kd->∃kd',X.env.scope.names.lookup x=some kd'/\(kd'=kd\/(kd=.free/\kd'=.cell))
 fnx:∀x,nm.lookup x=some .local->X.env.scope.names.lookup x=some .local
noncomputable def idx:List Str->Str->Option Nat
 | [],_=>none
 | y::l,x=>if y=x then some 0 else (idx l x).map (·+1)
theorem zfC:∀{N:List Str} {x:Str} {i:Nat},idx N x=some i->N[i]?=some x
 | y::l,x,i,h=>by
  unfold idx at h;split at h
  ·rename_i e;cases h;rw [e];rfl
  ·cases hr:idx l x with
   | none=>rw [hr] at h;cases h
   | some j=>rw [hr] at h;cases h;simpa using zfC hr
noncomputable def zhP(x:Str):Bool:=!(x == ("__debug__":Str))&&!(x == ("__classdict__":Str))&&!decide (x = "__name__")
def zgj{x:Str}(h:zhP x=true):(x == ("__debug__":Str))=false/\(x == ("__classdict__":Str))=false/\x ≠ "__name__":=by
 unfold zhP at h;simp only [yab,ybA,ybT] at h;exact ⟨h.1.1,h.1.2,h.2⟩
noncomputable def zuk:Option NameKind->Bool | some .local=>true | some .cell=>true | some .free=>true | _=>false
noncomputable def zaQ(nm:Names)(N:List Str)(x:Str):Option Nat:=if zuk (nm.lookup x)&&zhP x then idx N x else none
noncomputable def zbq(nm:Names)(x:Str):Bool:=decide (nm.lookup x=some .globalImplicit)&&zhP x
section
variable{cl:Cf}{G:Genv}{k:Nat}{X:Cx}{nm:Names}{N:List Str}{E:St->XK}
def Gx.slot(g:Gx cl G k X nm N E){x:Str}{i:Nat}(h:zaQ nm N x=some i):X.N[i]?=some x/\Vis X.env.scope x/\(x == ("__debug__":Str))=false/\(x == ("__classdict__":Str))=false:=by
 unfold zaQ at h;split at h
 ·rename_i hv;rw [yab] at hv;obtain ⟨h1,h2,_⟩:=zgj hv.2;refine ⟨by rw [g.eN];exact zfC h,?_,h1,h2⟩
  cases hk:nm.lookup x with
  | none=>rw [hk] at hv;exact absurd hv.1 (by decide)
  | some kd =>
   obtain ⟨kd',e,z⟩:=g.vis x kd hk;rw [hk] at hv;unfold Vis;rw [e]
   rcases z with rfl | ⟨_,rfl⟩
   ·cases kd'<;>first | exact .inl rfl | exact .inr (.inl rfl) | exact .inr (.inr rfl) | exact absurd hv.1 (by decide)
   ·exact .inr (.inl rfl)
 ·cases h
def Gx.glob(g:Gx cl G k X nm N E){x:Str}(h:zbq nm x=true):Gl X x/\(x == ("__debug__":Str))=false/\x ≠ "__name__":=by
 unfold zbq at h;rw [yab] at h;obtain ⟨h1,_,h3⟩:=zgj h.2;obtain ⟨kd',e,z⟩:=g.vis x _ (yaj h.1)
 rcases z with rfl | ⟨z,_⟩
 ·exact ⟨e,h1,h3⟩
 ·cases z
end
noncomputable abbrev Rec:=Names->List Str->Expr->Option (Bool×Fe)
noncomputable def okE:Expr->Bool | .Starred _ _=>false | .Set _ _ _=>false | _=>true
def zab{e:Expr}(h:okE e=true):zbd e=true:=by cases e<;>first | rfl | cases h
def zei{e:Expr}{op:CmpOp}(h:okE e=true):behindInMarks op e=false:=by cases e<;>first | rfl | cases h
def zfq{e:Expr}{env:PySem.Env}(h:okE e=true)(v:Value):foldedSetIterable e env v=pure v:=by cases e<;>first | rfl | cases h
noncomputable def zbr:Expr->Bool | .IfExp _ _ _ _=>false | _=>true
noncomputable def zaI(cl:Cf)(G:Genv)(k:Nat)(rc:Rec):Prop:=∀(X:Cx) (nm:Names) (N:List Str) (E:St->XK),Gx cl G k X nm N E->∀(e:Expr) (o:Bool) (f:Fe),rc nm N e=some (o,f) →
 (o=true->PE X e (tN cl E f))/\PE X e (tE cl E f)/\(zbr e=true->PT X e (tTr cl E f))/\okE e=true
noncomputable def shE(rc:Rec)(nm:Names)(N:List Str)(e:Expr):Option Fe:=(rc nm N e).map (·.2)
noncomputable def opE(rc:Rec)(nm:Names)(N:List Str)(e:Expr):Option Fe:=match e with
 | .Name x _=>(match zaQ nm N x with | some i=>some (zap i) | none=>shE rc nm N e)
 | _=>shE rc nm N e
noncomputable def shL(rc:Rec)(nm:Names)(N:List Str):List Expr->Option (List Fe)
 | []=>some []
 | e::es=>(shE rc nm N e).bind fun f=>(shL rc nm N es).bind fun fs=>some (f::fs)
noncomputable def opL(rc:Rec)(nm:Names)(N:List Str):List Expr->Option (List Fe)
 | []=>some []
 | e::es=>(opE rc nm N e).bind fun f=>(opL rc nm N es).bind fun fs=>some (f::fs)
section
variable{cl:Cf}{G:Genv}{k:Nat}{rc:Rec}{X:Cx}{nm:Names}{N:List Str}{E:St->XK}
def zaq(hs:zaI cl G k rc)(g:Gx cl G k X nm N E){e:Expr}{f:Fe}(h:shE rc nm N e=some f):PE X e (tE cl E f)/\(zbr e=true->PT X e (tTr cl E f))/\okE e=true:=by
 unfold shE at h
 cases hr:rc nm N e with
 | none=>rw [hr] at h;cases h
 | some p =>
  obtain ⟨o,f'⟩:=p;rw [hr] at h;cases h;obtain ⟨_,h2,h3,h4⟩:=hs X nm N E g e o _ hr;exact ⟨h2,h3,h4⟩
def zbG(hs:zaI cl G k rc)(g:Gx cl G k X nm N E){e:Expr}{f:Fe}(h:opE rc nm N e=some f):PE X e (tH cl E f)/\okE e=true:=by
 unfold opE at h;split at h
 ·rename_i x pos;split at h
  ·rename_i i hi;cases h;obtain ⟨h1,h2,h3,h4⟩:=g.slot hi;exact ⟨zqA h1 h2 h3 h4,rfl⟩
  ·obtain ⟨h1,_,h3⟩:=zaq hs g h;exact ⟨zjt h1,h3⟩
 ·obtain ⟨h1,_,h3⟩:=zaq hs g h;exact ⟨zjt h1,h3⟩
theorem zeS(hs:zaI cl G k rc)(g:Gx cl G k X nm N E):∀{es:List Expr} {fs:List Fe},shL rc nm N es=some fs->PA X es (tAs cl E fs)/\es.all zbd=true/\fs.length=es.length
 | [],fs,h=>by cases h;exact ⟨zdI,rfl,rfl⟩
 | e::es,fs,h=>by
  unfold shL at h
  cases h1:shE rc nm N e with
  | none=>rw [h1] at h;cases h
  | some f =>
   rw [h1] at h
   cases h2:shL rc nm N es with
   | none=>rw [h2] at h;cases h
   | some fs' =>
    rw [h2] at h;cases h;obtain ⟨a1,_,a3⟩:=zaq hs g h1;obtain ⟨b1,b2,b3⟩:=zeS hs g h2;exact ⟨zbO a1 b1 (zaB (zab a3)),by rw [ybI,zab a3,b2];rfl,by rw [yap,yap,b3]⟩
theorem znf(hs:zaI cl G k rc)(g:Gx cl G k X nm N E):∀{es:List Expr} {fs:List Fe},opL rc nm N es=some fs->PA X es (tHs cl E fs)/\es.all zbd=true/\fs.length=es.length
 | [],fs,h=>by cases h;exact ⟨zmY,rfl,rfl⟩
 | e::es,fs,h=>by
  unfold opL at h
  cases h1:opE rc nm N e with
  | none=>rw [h1] at h;cases h
  | some f =>
   rw [h1] at h
   cases h2:opL rc nm N es with
   | none=>rw [h2] at h;cases h
   | some fs' =>
    rw [h2] at h;cases h;obtain ⟨a1,a3⟩:=zbG hs g h1;obtain ⟨b1,b2,b3⟩:=znf hs g h2;exact ⟨zjo a1 b1 (zaB (zab a3)),by rw [ybI,zab a3,b2];rfl,by rw [yap,yap,b3]⟩
end
noncomputable def zw3:Const->Option D
 | .int i=>some (.int i)
 | .bool b=>some (.bl b)
 | .none=>some .non
 | .str x=>some (.str x)
 | _=>none
noncomputable def zuJ:Operator->Option (D->D->Option D)
 | .Add=>some zcM | .Sub=>some zpC | .Mult=>some ziB | .Mod=>some zj4 | .FloorDiv=>some zr3 | _=>none
noncomputable def zkr:Expr->Bool | .Constant .none _ _=>true | _=>false
noncomputable def zks:Expr->Bool | .Constant (.bool _) _ _=>true | _=>false
noncomputable def ltD:=zpG fun i j=>decide (i<j)
noncomputable def leD:=zpG fun i j=>decide (i<=j)
noncomputable def gtD:=zpG fun i j=>decide (j<i)
noncomputable def geD:=zpG fun i j=>decide (j<=i)
noncomputable def zr7:CmpOp->Expr->Option (D->D->Option D)
 | .Eq,_=>some eqD | .NotEq,_=>some neD | .Lt,_=>some ltD | .LtE,_=>some leD | .Gt,_=>some gtD | .GtE,_=>some geD | .In,_=>some inD | .NotIn,_=>some zk8
 | .Is,b=>if zkr b then some zsI else if zks b then some zsJ else none
 | .IsNot,b=>if zkr b then some zg9 else if zks b then some zlO else none
noncomputable def ziT(rc:Rec)(nm:Names)(N:List Str)(op:BoolOp):List Expr->Option Fe
 | []=>none
 | [a]=>if zbr a then shE rc nm N a else none
 | a::b::r=>if zbr a then (shE rc nm N a).bind fun f=>(ziT rc nm N op (b::r)).bind fun h=>some (match op with | .And=>zkG f h | .Or=>eOr f h) else none
structure BI where
 g:List D->Option D
 nw:Bool
noncomputable def zkX(x:Str):Option BI :=
 if x = "len" then some ⟨zeK,false⟩
 else if x = "all" then some ⟨zuY,false⟩
 else if x = "sum" then some ⟨zp2,false⟩
 else if x = "tuple" then some ⟨zbp,false⟩
 else none
noncomputable def zpP(x:Str):Option String:=if x = "int" then some "int" else if x = "bool" then some "bool" else if x = "tuple" then some "tuple" else if x = "str" then some "str" else if x = "list" then some "list" else none
noncomputable def zpn(G:Genv)(rc:Rec)(nm:Names)(N:List Str)(x:Str)(args:List Expr):Option (Bool×Fe) :=
 if zbq nm x then
  match G.fn x with
  | some fi=>if args.length=fi.ar then (shL rc nm N args).bind fun fs=>some (fi.own,eFn fi.run fs) else none
  | none=>if G.blt x then
    (if x = "isinstance" then (match args with
     | [a,.Name t _]=>if zbq nm t&&G.blt t&&(zpP t).isSome then (zpP t).bind fun T=>(opE rc nm N a).bind fun f=>some (false,eUn (zfz T) f)
      else none
     | _=>none)
    else match args with
     | []=>none
     | _::_=>(zkX x).bind fun bi=>(opL rc nm N args).bind fun fs=>some (bi.nw,zaG bi.g fs)) else none
 else none
noncomputable def zw0:Expr->Bool | .Tuple _ _ _=>true | _=>false
noncomputable def ziH(G:Genv)(rc:Rec)(nm:Names)(N:List Str)(tg e:Expr):Option Fi:=match e with
 | .Call (.Name x p) args [] pos=>if x = "range" then (if zbq nm x&&G.blt x then (match args with
   | [a]=>(shE rc nm N a).bind fun f=>some (zcZ f)
   | [a,b]=>(shE rc nm N a).bind fun f=>(shE rc nm N b).bind fun h=>some (zkE f h)
   | _=>none) else none)
  else if x = "reversed" then (if zbq nm x&&G.blt x then (match args with
   | [a]=>(shE rc nm N a).bind fun f=>some (zpd f)
   | _=>none) else none)
  else (shE rc nm N e).map zaD
 | _=>(shE rc nm N e).map zaD
noncomputable def ztz:Expr->Option (Str×Expr×Pos×Pos) | .Call (.Name y p) [a] [] q=>some (y,a,p,q) | _=>none
noncomputable def spA:List Expr->Option (Str×Expr×Pos×Pos) | [e]=>ztz e | _=>none
def zmX{args:List Expr}{c:Str×Expr×Pos×Pos}(h:spA args=some c):args=[.Call (.Name c.1 c.2.2.1) [c.2.1] [] c.2.2.2]:=by
 match args,h with
 | [e],h =>
  have h':ztz e=some c:=h;unfold ztz at h';split at h'
  ·cases h';rfl
  ·cases h'
noncomputable def spG(G:Genv)(rc:Rec)(nm:Names)(N:List Str)(x:Str)(args:List Expr):Option (Bool×Fe):=(spA args).bind fun c =>
 if decide (x = "tuple")&&decide (c.1 = "reversed")&&zbq nm "tuple" && G.blt "tuple" && zbq nm "reversed" && G.blt "reversed" then (shE rc nm N c.2.1).map fun f=>(false,eUn zdv f)
 else if decide (x = "sorted")&&decide (c.1 = "set")&&zbq nm "sorted" && G.blt "sorted" && zbq nm "set" && G.blt "set" then (shE rc nm N c.2.1).map fun f=>(true,eUn zgV f)
 else none
section
variable{cl:Cf}{G:Genv}{k:Nat}{rc:Rec}{X:Cx}{nm:Names}{N:List Str}{E:St->XK}
theorem Gx.units(g:Gx cl G k X nm N E):X.A.units+64<cLine:=g.room.units
def znC{op:Operator}{gg:D->D->Option D}(h:zuJ op=some gg):OpD X cl (binaryOp op) gg:=by
 cases op<;>simp [zuJ] at h<;>subst h
 ·exact zrn
 ·exact zrg
 ·exact zri
 ·exact zrj
 ·exact zrm
def ze5(g:Gx cl G k X nm N E){op:CmpOp}{b:Expr}{gg:D->D->Option D}(h:zr7 op b=some gg):OpD X cl (compareOp op) gg:=by
 cases op<;>simp only [zr7] at h
 ·cases h;exact ztX g.kk g.units
 ·cases h;exact ztV g.kk g.units
 ·cases h;exact zfr ztR
 ·cases h;exact zfr ztS
 ·cases h;exact zfr ztT
 ·cases h;exact zfr ztU
 ·split at h
  ·cases h;exact zrk
  ·split at h
   ·cases h;exact zrl
   ·cases h
 ·split at h
  ·cases h;exact zoH
  ·split at h
   ·cases h;exact zoI
   ·cases h
 ·cases h;exact ztW g.kk g.units
 ·cases h;exact zrh g.kk g.units
theorem zkW(hs:zaI cl G k rc)(g:Gx cl G k X nm N E){op:BoolOp}{pos:Pos}:∀{es:List Expr} {f:Fe},ziT rc nm N op es=some f->PE X (.BoolOp op es pos) (tE cl E f)/\PW X (.BoolOp op es pos) (tTr cl E f)
 | [],f,h=>by cases h
 | [a],f,h=>by
  unfold ziT at h;split at h
  ·rename_i ht;obtain ⟨h1,h2,_⟩:=zaq hs g h;refine ⟨zq1 h1,?_⟩
   cases op with
   | And=>exact zom (h2 ht)
   | Or=>exact zqN (h2 ht)
  ·cases h
 | a::b::r,f,h=>by
  unfold ziT at h;split at h
  ·rename_i ht
   cases h1:shE rc nm N a with
   | none=>rw [h1] at h;cases h
   | some fa =>
    rw [h1] at h
    cases h2:ziT rc nm N op (b::r) with
    | none=>rw [h2] at h;cases h
    | some fb =>
     rw [h2] at h;obtain ⟨a1,a2,_⟩:=zaq hs g h1;obtain ⟨b1,b2⟩:=zkW hs g (pos:=pos) h2
     cases op with
     | And=>cases h;exact ⟨zqB a1 b1,zp1 (a2 ht) b2⟩
     | Or=>cases h;exact ⟨ztB a1 b1,ztq (a2 ht) b2⟩
  ·cases h
def zmI:bootBuiltins "all" = some (.builtin "all"):=by decide +kernel
def ze6:bootBuiltins "tuple" = some (.type "tuple"):=by decide +kernel
def zkT:bootBuiltins "list" = some (.type "list"):=by decide +kernel
def zmH:bootBuiltins "int" = some (.type "int"):=by decide +kernel
def zkV:bootBuiltins "bool" = some (.type "bool"):=by decide +kernel
def zsO:bootBuiltins "max" = some (.builtin "max"):=by decide +kernel
def zsN:bootBuiltins "min" = some (.builtin "min"):=by decide +kernel
def zsP:bootBuiltins "abs" = some (.builtin "abs"):=by decide +kernel
def zmG:bootBuiltins "str" = some (.type "str"):=by decide +kernel
def zsg(g:Gx cl G k X nm N E){x:Str}{bi:BI}{e:Expr}{es:List Expr}{fs:List Fe}{p pos:Pos}(h:zkX x=some bi)(hg:zbq nm x=true)(hb:G.blt x=true)(ha:PA X (e::es) (tHs cl E fs))(hp:(e::es).all zbd=true) :
  (bi.nw=true->PE X (.Call (.Name x p) (e::es) [] pos) (tN cl E (zaG bi.g fs)))/\PE X (.Call (.Name x p) (e::es) [] pos) (tE cl E (zaG bi.g fs)):=by
 obtain ⟨g1,g2,g3⟩:=g.glob hg;have m:=g.gok.blt x hb;rw [ybI,yab] at hp;have st:=zaB (es:=es) (env:=X.env) hp.1;have pl:=zbz (pos:=pos) (env:=X.env) hp.2
 have D1:∀{id:String} {gg:List D->Option D},ziY X cl (.builtin id) gg->bootBuiltins x=some (.builtin id)->PE X (.Call (.Name x p) (e::es) [] pos) (tE cl E (zaG gg fs)):=fun hc hv =>
  PE.imp (zdc hc g1 m hv ha g3 g2 st pl) fun _ _ _ q=>zpZ (fun _ _ _ z=>z) q
 have D2:∀{T:String} {gg:List D->Option D},ziY X cl (.type T) gg->bootBuiltins x=some (.type T)->PE X (.Call (.Name x p) (e::es) [] pos) (tE cl E (zaG gg fs)):=fun hc hv =>
  PE.imp (zdb hc g1 m hv ha g3 g2 st pl) fun _ _ _ q=>zpZ (fun _ _ _ z=>z) q
 have N2:∀{T:String} {gg:List D->Option D},zu1 X cl (.type T) gg->bootBuiltins x=some (.type T)->PE X (.Call (.Name x p) (e::es) [] pos) (tN cl E (zaG gg fs)):=fun hc hv =>
  PE.imp (zdb hc g1 m hv ha g3 g2 st pl) fun _ _ _ q=>zto (fun _ _ _ z=>z) q
 unfold zkX at h;split at h
 ·rename_i e';cases h;exact ⟨(fun z=>absurd z (by decide)),D1 (zsa g.kk) (by rw [e'];exact PySem.boot_len)⟩
 split at h
 ·rename_i e';cases h;exact ⟨(fun z=>absurd z (by decide)),D1 (zsb g.calm) (by rw [e'];exact zmI)⟩
 split at h
 ·rename_i e';cases h;exact ⟨(fun z=>absurd z (by decide)),D1 (zr9 g.calm) (by rw [e'];exact PyProof.Rows.boot_sum)⟩
 split at h
 ·rename_i e';cases h;exact ⟨(fun z=>absurd z (by decide)),D2 zmB (by rw [e'];exact ze6)⟩
 ·cases h
def zs9{t:Str}{T:String}(h:zpP t=some T):bootBuiltins t=some (.type T):=by
 unfold zpP at h;split at h
 ·rename_i e;cases h;rw [e];exact zmH
 split at h
 ·rename_i e;cases h;rw [e];exact zkV
 split at h
 ·rename_i e;cases h;rw [e];exact ze6
 split at h
 ·rename_i e;cases h;rw [e];exact zmG
 split at h
 ·rename_i e;cases h;rw [e];exact zkT
 ·cases h
def zpm(hs:zaI cl G k rc)(g:Gx cl G k X nm N E){x:Str}{args:List Expr}{o:Bool}{f:Fe}{p pos:Pos}(h:zpn G rc nm N x args=some (o,f)) :
  (o=true->PE X (.Call (.Name x p) args [] pos) (tN cl E f))/\PE X (.Call (.Name x p) args [] pos) (tE cl E f):=by
 unfold zpn at h;split at h
 ·rename_i hg;obtain ⟨g1,g2,g3⟩:=g.glob hg;split at h
  ·rename_i fi hfi;split at h
   ·rename_i hl;obtain ⟨fa,fd,ps,m1,m2,m3,m4⟩:=g.gok.fn x fi hfi
    cases h1:shL rc nm N args with
    | none=>rw [h1] at h;cases h
    | some fs =>
     rw [h1] at h;cases h;obtain ⟨a1,a2,a3⟩:=zeS hs g h1;have hlen:fs.length=fi.ar:=a3.trans hl
     have main:PE X (.Call (.Name x p) args [] pos) (zfZ (zin cl fi.ar fi.own fi.run) [] E (tAs cl E fs)):=by
      cases args with
      | nil =>
       cases h1;refine PE.imp (zjR m4 g.room g1 m1 m2 m3 .nil g.pass g2) ?_;rintro σ H Q ⟨B,w,ρ,S,rfl,R,q⟩;exact q [] w R (Fut.refl _) .nil
      | cons e es =>
       rw [ybI,yab] at a2;exact zlH m4 g.room g1 m1 m2 m3 .nil g.pass a1 g2 (zaB a2.1) (zbz a2.2)
     cases ho:fi.own with
     | false =>
      rw [ho] at main;exact ⟨(fun z=>by cases z),PE.imp main fun _ _ _ q=>zse q hlen⟩
     | true =>
      rw [ho] at main;have n:PE X (.Call (.Name x p) args [] pos) (tN cl E (eFn fi.run fs)):=PE.imp main fun _ _ _ q=>zsd q hlen
      exact ⟨fun _=>n,zbX n⟩
   ·cases h
  ·split at h
   ·rename_i hb;split at h
    ·rename_i hx;subst hx;split at h
     ·rename_i a t p2;split at h
      ·rename_i ht;rw [yab,yab] at ht;replace ht:=ht.1
       cases hT:zpP t with
       | none=>rw [hT] at h;cases h
       | some T =>
        rw [hT] at h
        cases h1:opE rc nm N a with
        | none=>rw [h1] at h;cases h
        | some fa =>
         rw [h1] at h;cases h;obtain ⟨t1,t2,t3⟩:=g.glob ht.1;obtain ⟨a1,a2⟩:=zbG hs g h1;exact ⟨(fun z=>by cases z),zod g1 (g.gok.blt _ hb) t1 (g.gok.blt _ ht.2) (zs9 hT) t3 t2 (zab a2) a1⟩
      ·cases h
     ·cases h
    ·split at h
     ·cases h
     ·rename_i e es
      cases h2:zkX x with
      | none=>rw [h2] at h;cases h
      | some bi =>
       rw [h2] at h
       cases h1:opL rc nm N (e::es) with
       | none=>rw [h1] at h;cases h
       | some fs =>
        rw [h1] at h;cases h;obtain ⟨a1,a2,_⟩:=znf hs g h1;exact zsg g h2 hg hb a1 a2
   ·cases h
 ·cases h
def zko(hs:zaI cl G k rc)(g:Gx cl G k X nm N E){e tg:Expr}{fi:Fi}(h:ziH G rc nm N tg e=some fi):PI X tg e (tI cl E fi)/\okE e=true:=by
 have gen:∀{e:Expr},(shE rc nm N e).map zaD=some fi->PI X tg e (tI cl E fi)/\okE e=true:=fun {e} h=>by
  cases h1:shE rc nm N e with
  | none=>rw [h1] at h;cases h
  | some f =>
   rw [h1] at h;cases h;obtain ⟨a1,_,a3⟩:=zaq hs g h1;exact ⟨zqk g.kk a1,a3⟩
 unfold ziH at h;split at h
 ·rename_i x p args pos;split at h
  ·rename_i hx;subst hx;split at h
   ·rename_i hb;rw [yab] at hb;obtain ⟨g1,_,_⟩:=g.glob hb.1;have m:=g.gok.blt _ hb.2;split at h
    ·rename_i a
     cases h1:shE rc nm N a with
     | none=>rw [h1] at h;cases h
     | some f =>
      rw [h1] at h;cases h;obtain ⟨a1,_,a3⟩:=zaq hs g h1;exact ⟨zn4 g1 m (zbO a1 zdI (zaB (zab a3))) (zaB (zab a3)),rfl⟩
    ·rename_i a b
     cases h1:shE rc nm N a with
     | none=>rw [h1] at h;cases h
     | some f =>
      rw [h1] at h
      cases h2:shE rc nm N b with
      | none=>rw [h2] at h;cases h
      | some f2 =>
       rw [h2] at h;cases h;obtain ⟨a1,_,a3⟩:=zaq hs g h1;obtain ⟨b1,_,b3⟩:=zaq hs g h2;have s1:=zaB (es:=[b]) (env:=X.env) (zab a3);have s2:=zaB (es:=[]) (env:=X.env) (zab b3);exact ⟨zn3 g1 m (zbO a1 (zbO b1 zdI s2) s1) (by rw [s1,s2];rfl) s2,rfl⟩
    ·cases h
   ·cases h
  split at h
  ·rename_i hx;subst hx;split at h
   ·rename_i hb;rw [yab] at hb;obtain ⟨g1,_,_⟩:=g.glob hb.1;have m:=g.gok.blt _ hb.2;split at h
    ·rename_i a
     cases h1:shE rc nm N a with
     | none=>rw [h1] at h;cases h
     | some f =>
      rw [h1] at h;cases h;obtain ⟨a1,_,a3⟩:=zaq hs g h1;exact ⟨zqi g.kk g1 m (zbO a1 zdI (zaB (zab a3))) (zaB (zab a3)),rfl⟩
    ·cases h
   ·cases h
  ·exact gen h
 ·exact gen h
def zty(hs:zaI cl G k rc)(g:Gx cl G k X nm N E){x:Str}{args:List Expr}{p pos:Pos}{o:Bool}{f:Fe}(h:spG G rc nm N x args=some (o,f)):(o=true->PE X (.Call (.Name x p) args [] pos) (tN cl E f))/\PE X (.Call (.Name x p) args [] pos) (tE cl E f):=by
 unfold spG at h
 cases hc:spA args with
 | none=>rw [hc] at h;cases h
 | some c =>
 rw [hc] at h;obtain rfl:=zmX hc;obtain ⟨y,a,p2,pos2⟩:=c;dsimp only [Option.bind] at h ⊢;clear hc;split at h
 ·rename_i hb;simp only [yab,yay] at hb;obtain ⟨⟨⟨⟨⟨rfl,rfl⟩,b1⟩,b2⟩,b3⟩,b4⟩:=hb;obtain ⟨g1,_,_⟩:=g.glob b1;obtain ⟨g2,_,_⟩:=g.glob b3
  cases h1:shE rc nm N a with
  | none=>rw [h1] at h;cases h
  | some fa =>
   rw [h1] at h;cases h;obtain ⟨a1,_,a3⟩:=zaq hs g h1;exact ⟨(fun z=>by cases z),zjr g.calm g1 (g.gok.blt _ b2) g2 (g.gok.blt _ b4) a1 (zaB (zab a3))⟩
 split at h
 ·rename_i hb;simp only [yab,yay] at hb;obtain ⟨⟨⟨⟨⟨rfl,rfl⟩,b1⟩,b2⟩,b3⟩,b4⟩:=hb;obtain ⟨g1,_,_⟩:=g.glob b1;obtain ⟨g2,_,_⟩:=g.glob b3
  cases h1:shE rc nm N a with
  | none=>rw [h1] at h;cases h
  | some fa =>
   rw [h1] at h;cases h;obtain ⟨a1,_,a3⟩:=zaq hs g h1;have n:=zoa (p:=p) (p2:=p2) (pos:=pos) (pos2:=pos2) g.calm g.kk g1 (g.gok.blt _ b2) g2 (g.gok.blt _ b4) a1 (zaB (zab a3));exact ⟨fun _=>n,zbX n⟩
 ·cases h
noncomputable def zuE(G:Genv)(rc:Rec)(nm:Names)(N:List Str)(o:Expr)(m:Str)(ap cp:Pos)(args:List Expr)(kws:List Keyword):Option (Bool×Fe):=(spA [o]).bind fun c=>match args,kws with
 | [a,b],[]=>if decide (c.1 = "dict")&&decide (m = "get")&&(ap.endLine == cp.line)&&zbq nm "dict" && G.blt "dict" then (shE rc nm N c.2.1).bind fun f=>(shE rc nm N a).bind fun g=>(shE rc nm N b).bind fun h=>some (false,zuA f g h) else none
 | _,_=>none
noncomputable def nm1:Expr->Option (Str×Pos) | .Name x p=>some (x,p) | _=>none
def zhS{e:Expr}{x:Str×Pos}(h:nm1 e=some x):e=.Name x.1 x.2:=by cases e<;>first | (cases h;done) | (cases h;rfl)
noncomputable def dn4:Expr->Option (Expr×Expr×Expr×Expr×Pos) | .Dict [some a,some b] [c,d] p=>some (a,b,c,d,p) | _=>none
def zr2{e:Expr}{x:Expr×Expr×Expr×Expr×Pos}(h:dn4 e=some x):e=.Dict [some x.1,some x.2.1] [x.2.2.1,x.2.2.2.1] x.2.2.2.2:=by
 unfold dn4 at h;split at h
 ·cases h;rfl
 ·cases h
noncomputable def dnG(rc:Rec)(nm:Names)(N:List Str)(o:Expr)(m:Str)(ap cp:Pos)(args:List Expr)(kws:List Keyword):Option (Bool×Fe):=(dn4 o).bind fun t=>match args,kws with
 | [a,b],[]=>if decide (m = "get")&&(ap.endLine == cp.line) then (nm1 t.1).bind fun x1=>(nm1 t.2.1).bind fun x2=>(nm1 t.2.2.1).bind fun y1=>(nm1 t.2.2.2.1).bind fun y2=>(zaQ nm N x1.1).bind fun i1=>(zaQ nm N y1.1).bind fun j1=>(zaQ nm N x2.1).bind fun i2=>(zaQ nm N y2.1).bind fun j2=>(shE rc nm N a).bind fun f=>(shE rc nm N b).bind fun h=>some (false,zuB i1 j1 i2 j2 f h) else none
 | _,_=>none
noncomputable def dpG(G:Genv)(rc:Rec)(nm:Names)(N:List Str)(o:Expr)(m:Str)(ap cp:Pos)(args:List Expr)(kws:List Keyword):Option (Bool×Fe):=match zuE G rc nm N o m ap cp args kws with | some p=>some p | none=>dnG rc nm N o m ap cp args kws
def zuF(hs:zaI cl G k rc)(g:Gx cl G k X nm N E){o:Expr}{m:Str}{ap cp:Pos}{args:List Expr}{kws:List Keyword}{ob:Bool}{f:Fe}(h:dnG rc nm N o m ap cp args kws=some (ob,f)):ob=false/\PE X (.Call (.Attribute o m ap) args kws cp) (tE cl E f):=by
 unfold dnG at h;obtain ⟨t,e0,hz⟩:=obs h;clear h;rw [zr2 e0];split at hz
 ·split at hz
  ·rename_i hb;rw [yab,yay] at hb;obtain ⟨rfl,hln⟩:=hb;obtain ⟨x1,n1,h⟩:=obs hz;obtain ⟨x2,n2,h⟩:=obs h;obtain ⟨y1,n3,h⟩:=obs h;obtain ⟨y2,n4,h⟩:=obs h;obtain ⟨i1,s1,h⟩:=obs h;obtain ⟨j1,s2,h⟩:=obs h;obtain ⟨i2,s3,h⟩:=obs h;obtain ⟨j2,s4,h⟩:=obs h;obtain ⟨f2,h2,h⟩:=obs h;obtain ⟨f3,h3,h⟩:=obs h;cases h;rw [zhS n1,zhS n2,zhS n3,zhS n4];obtain ⟨c1,_,c3⟩:=zaq hs g h2;obtain ⟨d1,_,d3⟩:=zaq hs g h3
   have v:∀{x:Str} {i:Nat} {p:Pos},zaQ nm N x=some i->PE X (.Name x p) (zmP i):=fun e=>by
    obtain ⟨q1,q2,q3,q4⟩:=g.slot e;exact zbl q1 q2 q3 q4
   exact ⟨rfl,zqy (by have:=g.units;omega) (v s1) (v s2) (v s3) (v s4) c1 d1 ⟨rfl,zev (by simp [zab c3,zab d3]) (by simp),hln,by rw [zaB (zab c3),zaB (zab d3)];rfl⟩⟩
  ·cases hz
 ·cases hz
def zr1(hs:zaI cl G k rc)(g:Gx cl G k X nm N E){o:Expr}{m:Str}{ap cp:Pos}{args:List Expr}{kws:List Keyword}{ob:Bool}{f:Fe}(h:zuE G rc nm N o m ap cp args kws=some (ob,f)):ob=false/\PE X (.Call (.Attribute o m ap) args kws cp) (tE cl E f):=by
 unfold zuE at h
 cases hc:spA [o] with
 | none=>rw [hc] at h;cases h
 | some c =>
 rw [hc] at h;have e0:=zmX hc;obtain ⟨y,a,p2,pos2⟩:=c;obtain rfl:o=_:=(List.cons.inj e0).1;dsimp only [Option.bind] at h ⊢;clear hc e0;split at h
 ·rename_i ea eb;split at h
  ·rename_i hb;simp only [yab,yay] at hb;obtain ⟨⟨⟨⟨rfl,rfl⟩,hln⟩,b1⟩,b2⟩:=hb;obtain ⟨g1,_,_⟩:=g.glob b1
   cases h1:shE rc nm N a with
   | none=>rw [h1] at h;cases h
   | some f1 =>
    rw [h1] at h
    cases h2:shE rc nm N ea with
    | none=>dsimp only at h;rw [h2] at h;cases h
    | some f2 =>
     dsimp only at h;rw [h2] at h
     cases h3:shE rc nm N eb with
     | none=>dsimp only at h;rw [h3] at h;cases h
     | some f3 =>
      dsimp only at h;rw [h3] at h;cases h;obtain ⟨a1,_,a3⟩:=zaq hs g h1;obtain ⟨c1,_,c3⟩:=zaq hs g h2;obtain ⟨d1,_,d3⟩:=zaq hs g h3;exact ⟨rfl,zqx g.calm g1 (g.gok.blt _ b2) a1 c1 d1 (zaB (zab a3)) ⟨rfl,zev (by simp [zab c3,zab d3]) (by simp),hln,by rw [zaB (zab c3),zaB (zab d3)];rfl⟩⟩
  ·cases h
 ·cases h
def zuD(hs:zaI cl G k rc)(g:Gx cl G k X nm N E){o:Expr}{m:Str}{ap cp:Pos}{args:List Expr}{kws:List Keyword}{ob:Bool}{f:Fe}(h:dpG G rc nm N o m ap cp args kws=some (ob,f)):ob=false/\PE X (.Call (.Attribute o m ap) args kws cp) (tE cl E f):=by
 unfold dpG at h;split at h
 ·rename_i e;cases h;exact zr1 hs g e
 ·exact zuF hs g h
noncomputable def l2F:List Expr->Option (Expr×Expr×Pos) | [.List [a,b] p]=>some (a,b,p) | _=>none
def zrA{args:List Expr}{x:Expr×Expr×Pos}(h:l2F args=some x):args=[.List [x.1,x.2.1] x.2.2]:=by
 unfold l2F at h;split at h
 ·cases h;rfl
 ·cases h
noncomputable def ztx(G:Genv)(rc:Rec)(nm:Names)(N:List Str)(x:Str)(args:List Expr):Option (Bool×Fe):=(l2F args).bind fun c=>if decide (x = "sorted")&&zbq nm "sorted" && G.blt "sorted" then (shE rc nm N c.1).bind fun f=>(shE rc nm N c.2.1).bind fun h=>some (true,zuy f h) else none
def zqf(hs:zaI cl G k rc)(g:Gx cl G k X nm N E){x:Str}{args:List Expr}{p pos:Pos}{o:Bool}{f:Fe}(h:ztx G rc nm N x args=some (o,f)):(o=true->PE X (.Call (.Name x p) args [] pos) (tN cl E f))/\PE X (.Call (.Name x p) args [] pos) (tE cl E f):=by
 unfold ztx at h;obtain ⟨c,e0,hz⟩:=obs h;clear h;rw [zrA e0];split at hz
 ·rename_i hb;simp only [yab,yay] at hb;obtain ⟨⟨rfl,b1⟩,b2⟩:=hb;obtain ⟨g1,_,_⟩:=g.glob b1;obtain ⟨f1,h1,h⟩:=obs hz;obtain ⟨f2,h2,h⟩:=obs h;cases h;obtain ⟨a1,_,a3⟩:=zaq hs g h1;obtain ⟨d1,_,d3⟩:=zaq hs g h2;have s1:=zaB (es:=[c.2.1]) (env:=X.env) (zab a3);have s2:=zaB (es:=[]) (env:=X.env) (zab d3);have n:=zqp (p:=p) (lp:=c.2.2) (pos:=pos) g.calm g1 (g.gok.blt _ b2) (zbO a1 (zbO d1 zdI s2) s1);exact ⟨fun _=>n,zbX n⟩
 ·cases hz
noncomputable def itF:List Expr->Option (Str×Pos×Str×Pos×Pos) | [.Call (.Attribute (.Name x px) m ap) [] [] cp]=>some (x,px,m,ap,cp) | _=>none
def zrN{args:List Expr}{x:Str×Pos×Str×Pos×Pos}(h:itF args=some x):args=[.Call (.Attribute (.Name x.1 x.2.1) x.2.2.1 x.2.2.2.1) [] [] x.2.2.2.2]:=by
 unfold itF at h;split at h
 ·cases h;rfl
 ·cases h
noncomputable def itG(G:Genv)(nm:Names)(N:List Str)(x:Str)(args:List Expr):Option (Bool×Fe):=(itF args).bind fun c=>if decide (x = "sorted")&&decide (c.2.2.1 = "items")&&(c.2.2.2.1.endLine == c.2.2.2.2.line)&&zbq nm "sorted" && G.blt "sorted" then (zaQ nm N c.1).bind fun i=>some (true,zpf i) else none
noncomputable def srG(G:Genv)(rc:Rec)(nm:Names)(N:List Str)(x:Str)(args:List Expr):Option (Bool×Fe):=match itG G nm N x args with | some p=>some p | none=>ztx G rc nm N x args
def ztw(hs:zaI cl G k rc)(g:Gx cl G k X nm N E){x:Str}{args:List Expr}{p pos:Pos}{o:Bool}{f:Fe}(h:srG G rc nm N x args=some (o,f)):(o=true->PE X (.Call (.Name x p) args [] pos) (tN cl E f))/\PE X (.Call (.Name x p) args [] pos) (tE cl E f):=by
 unfold srG at h;split at h
 ·rename_i hit;cases h;unfold itG at hit;obtain ⟨c,e0,hz⟩:=obs hit;clear hit;rw [zrN e0];split at hz
  ·rename_i hb;simp only [yab,yay] at hb;obtain ⟨⟨⟨⟨rfl,b0⟩,hln⟩,b1⟩,b2⟩:=hb;obtain ⟨g1,_,_⟩:=g.glob b1;obtain ⟨i,h1,h⟩:=obs hz;cases h;obtain ⟨n1,n2,n3,n4⟩:=g.slot h1;rw [b0];have n:=zqv (cl:=cl) (E:=E) (p:=p) (px:=c.2.1) (pos:=pos) g.calm g1 (g.gok.blt _ b2) n1 n2 n3 n4 hln;exact ⟨fun _=>n,zbX n⟩
  ·cases hz
 ·exact zqf hs g h
end
section
variable{cl:Cf}{G:Genv}{k:Nat}{rc:Rec}{X:Cx}{nm:Names}{N:List Str}{E:St->XK}
noncomputable def zm3:Expr->Bool | .Name _ _=>true | .Call (.Name _ _) (_::_) _ _=>true | .Attribute (.Name _ _) _ _=>true | _=>false
noncomputable def zoN(G:Genv)(rc:Rec)(nm:Names)(N:List Str)(o:Expr)(m:Str)(ap cp:Pos)(args:List Expr)(kws:List Keyword):Option (Bool×Fe) :=
 if kws.isEmpty&&zm3 o&&(ap.endLine == cp.line)&&decide (args.length<30) then (G.ob.mt m).bind fun c=>if args.length+1=c.2.ar then (shE rc nm N o).bind fun fo=>(shL rc nm N args).bind fun fs=>some (c.2.own,zgy c.1 m c.2.run fo fs) else none else none
noncomputable def mkG(G:Genv)(rc:Rec)(nm:Names)(N:List Str)(x:Str)(args:List Expr):Option (Bool×Fe) :=
 if zbq nm x&&!args.isEmpty then (G.ob.mks x).bind fun c=>(shL rc nm N args).bind fun fs =>
  if args.length+1=c.2.ar then some (false,eMk x [] c.2.run fs) else if args.length+c.1.length+1=c.2.ar then some (false,eMk x c.1 c.2.run fs) else none
 else none
noncomputable def zfy:Expr->Bool | .Name _ _=>true | _=>false
noncomputable def zuu(G:Genv)(rc:Rec)(nm:Names)(N:List Str)(o:Expr)(f:Str):Option (Bool×Fe):=if zfy o&&!G.ob.df f&&G.ob.fk G.ob.cur f then (shE rc nm N o).map fun fo=>(false,zpg G.ob.cur f fo) else none
noncomputable def zuL:Expr->Option (Expr×Str×Pos) | .Attribute o m p=>some (o,m,p) | _=>none
def zkZ{e:Expr}{x:Expr×Str×Pos}(h:zuL e=some x):e=.Attribute x.1 x.2.1 x.2.2:=by cases e<;>first | (cases h;done) | (cases h;rfl)
noncomputable def nmF:Expr->Option (Str×Pos) | .Name x p=>some (x,p) | _=>none
def zgl{e:Expr}{x:Str×Pos}(h:nmF e=some x):e=.Name x.1 x.2:=by cases e<;>first | (cases h;done) | (cases h;rfl)
noncomputable def zhW:List CmpOp->Bool | [.NotIn]=>true | _=>false
noncomputable def zsA:List Expr->Option Expr | [a]=>some a | _=>none
noncomputable def zoJ(G:Genv)(rc:Rec)(nm:Names)(N:List Str)(a:Expr)(ops:List CmpOp)(bs:List Expr):Option (Bool×Fe) :=
 if zhW ops then (zsA bs).bind fun b=>(zuL b).bind fun t=>if zfy t.1&&G.ob.df t.2.1&&G.ob.fk G.ob.cur t.2.1 then (shE rc nm N a).bind fun fa=>(shE rc nm N t.1).bind fun fo=>some (false,zpe G.ob.cur t.2.1 fa fo) else none else none
noncomputable def zuq(G:Genv)(rc:Rec)(nm:Names)(N:List Str)(a i:Expr):Option (Bool×Fe) :=
 (zuL a).bind fun t=>if zfy t.1&&G.ob.df t.2.1&&G.ob.fk G.ob.cur t.2.1 then (nmF i).bind fun x=>(zaQ nm N x.1).bind fun j=>(shE rc nm N t.1).bind fun fo=>some (false,zkF G.ob.cur t.2.1 fo j) else none
def Gx.same(g:Gx cl G k X nm N E):Same' cl X:=⟨g.kk,g.pp,g.ww⟩
def Gx.u16(g:Gx cl G k X nm N E):X.A.units+16<cLine:=Nat.lt_of_le_of_lt (Nat.add_le_add_left (by decide) _) g.units
def zal{α β:Type}{o:Option α}{f:α->Option β}{b:β}(h:o.bind f=some b):∃a,o=some a/\f a=some b:=by
 cases o with
 | none=>cases h
 | some a=>exact ⟨a,rfl,h⟩
def zrW(hs:zaI cl G k rc)(g:Gx cl G k X nm N E){o:Expr}{f:Str}{pos:Pos}{w:Bool}{fe:Fe}(h:zuu G rc nm N o f=some (w,fe)):w=false/\PE X (.Attribute o f pos) (tE cl E fe):=by
 unfold zuu at h;split at h
 ·rename_i hc;rw [yab,yab] at hc
  cases h1:shE rc nm N o with
  | none=>rw [h1] at h;cases h
  | some fo =>
   rw [h1] at h;cases h;refine ⟨rfl,zqw (g.gok.fk _ _ hc.2) g.kk (zaq hs g h1).1 ?_⟩
   cases o<;>first | rfl | cases hc.1.1
 ·cases h
def zoK(hs:zaI cl G k rc)(g:Gx cl G k X nm N E){a:Expr}{ops:List CmpOp}{bs:List Expr}{pos:Pos}{w:Bool}{fe:Fe}(h:zoJ G rc nm N a ops bs=some (w,fe)):w=false/\PE X (.Compare a ops bs pos) (tE cl E fe)/\PT X (.Compare a ops bs pos) (tTr cl E fe):=by
 unfold zoJ at h;split at h
 ·rename_i hn
  have eo:ops=[.NotIn]:=by
   unfold zhW at hn;split at hn
   ·rfl
   ·cases hn
  subst eo;obtain ⟨b,h1,hz⟩:=zal h;obtain ⟨t,h2,hy⟩:=zal hz
  have eb:bs=[b]:=by
   unfold zsA at h1;split at h1
   ·cases h1;rfl
   ·cases h1
  have e2:=zkZ h2;clear h hz h1 h2;subst eb;subst e2;obtain ⟨o,f,ap⟩:=t;dsimp only at hy ⊢;split at hy
  ·rename_i hc;rw [yab,yab] at hc;obtain ⟨fa,h3,hy⟩:=zal hy;obtain ⟨fo,h4,hy⟩:=zal hy;cases hy
   have hb:attributeBase o f X.env (eval o X.env)=eval o X.env:=by cases o<;>first | rfl | cases hc.1.1
   exact ⟨rfl,zqs g.u16 g.same (g.gok.fk _ _ hc.2) (zaq hs g h3).1 (zaq hs g h4).1 hb rfl,zp5 g.u16 g.same (g.gok.fk _ _ hc.2) (zaq hs g h3).1 (zaq hs g h4).1 hb rfl⟩
  ·cases hy
 ·cases h
noncomputable def zv0(G:Genv)(rc:Rec)(nm:Names)(N:List Str)(a:Expr)(ops:List CmpOp)(bs:List Expr):Option (Bool×Fe) :=
 if zhW ops then (zsA bs).bind fun b=>(nmF b).bind fun t=>if G.ds t.1 then (zaQ nm N t.1).bind fun i=>(shE rc nm N a).bind fun fa=>some (false,zfG i fa) else none else none
noncomputable def ztY(G:Genv)(rc:Rec)(nm:Names)(N:List Str)(a:Expr)(ops:List CmpOp)(bs:List Expr):Option (Bool×Fe):=match zv0 G rc nm N a ops bs with | some p=>some p | none=>zoJ G rc nm N a ops bs
def zrp(hs:zaI cl G k rc)(g:Gx cl G k X nm N E){a:Expr}{ops:List CmpOp}{bs:List Expr}{pos:Pos}{w:Bool}{fe:Fe}(h:ztY G rc nm N a ops bs=some (w,fe)):w=false/\PE X (.Compare a ops bs pos) (tE cl E fe)/\PT X (.Compare a ops bs pos) (tTr cl E fe):=by
 unfold ztY at h;split at h
 ·rename_i hz;cases h;unfold zv0 at hz;split at hz
  ·rename_i hn
   have eo:ops=[.NotIn]:=by
    unfold zhW at hn;split at hn
    ·rfl
    ·cases hn
   subst eo;obtain ⟨b,h1,hz⟩:=zal hz;obtain ⟨t,h2,hy⟩:=zal hz
   have eb:bs=[b]:=by
    unfold zsA at h1;split at h1
    ·cases h1;rfl
    ·cases h1
   have e2:=zgl h2;clear hz h1 h2;subst eb;subst e2;split at hy
   ·obtain ⟨i,h3,hy⟩:=zal hy;obtain ⟨fa,h4,hy⟩:=zal hy;cases hy;obtain ⟨n1,n2,n3,n4⟩:=g.slot h3;exact ⟨rfl,zob n1 n2 n3 n4 (zaq hs g h4).1,znO n1 n2 n3 n4 (zaq hs g h4).1⟩
   ·cases hy
  ·cases hz
 ·exact zoK hs g h
def zrT(hs:zaI cl G k rc)(g:Gx cl G k X nm N E){a i:Expr}{pos:Pos}{w:Bool}{fe:Fe}(h:zuq G rc nm N a i=some (w,fe)):w=false/\PE X (.Subscript a i pos) (tE cl E fe):=by
 unfold zuq at h;obtain ⟨t,h2,hz⟩:=zal h;have e2:=zkZ h2;clear h h2;subst e2;obtain ⟨o,f,ap⟩:=t;dsimp only at hz ⊢;split at hz
 ·rename_i hc;rw [yab,yab] at hc;obtain ⟨x,h3,hz⟩:=zal hz;obtain ⟨j,h4,hz⟩:=zal hz;obtain ⟨fo,h5,hz⟩:=zal hz;cases hz;have e3:=zgl h3;clear h3;subst e3;obtain ⟨s1,s2,s3,s4⟩:=g.slot h4;refine ⟨rfl,zof s1 s2 s3 s4 g.u16 g.same (g.gok.fk _ _ hc.2) (zaq hs g h5).1 ?_ (fun _ _=>rfl)⟩
  cases o<;>first | rfl | cases hc.1.1
 ·cases hz
def zyI{pos:Pos}{env:PySem.Env}{args:List Expr}(hp:args.all zbd=true)(hl:args.length<30):methodCallForm (args.length+0) (backTo pos (starEach args env)) (backToKw pos (keywordEach [] env))=true:=by
 have h:=zbz (pos:=pos) (env:=env) hp;unfold methodCallForm
 have h1:(backTo pos (starEach args env)).all (!·.1)=true:=by
  rw [List.all_eq_not_any_not];simpa using h
 rw [h1];show (true&&true&&decide (args.length+0+0<30))=true;rw [yaH (by omega)];rfl
def zj5{o:Expr}{m:Str}{ap pos:Pos}{env:PySem.Env}{args:List Expr}(hb:attributeBase o m env (eval o env)=eval o env)(hf:methodCallForm (args.length+0) (backTo pos (starEach args env)) (backToKw pos (keywordEach [] env))=true)(hp:(ap.endLine == pos.line)=true) :
  eval (.Call (.Attribute o m ap) args [] pos) env=(do
   let ov ← eval o env
   standAt ap.atName
   let (f,first) ← holding [ov] (getMethod ov m (do return (← importBound o env).getD true))
   callWith pos f first (backTo pos (starEach args env)) (backToKw pos (keywordEach [] env))):=by
 show (do
  let ov ← attributeBase o m env (eval o env)
  standAt ap.atName
  methodCall o m ap pos env ov (args.length+0) (backTo pos (starEach args env)) (backToKw pos (keywordEach [] env)))=_
 rw [hb]
 have e:∀ov,methodCall o m ap pos env ov (args.length+0) (backTo pos (starEach args env)) (backToKw pos (keywordEach [] env))=(do
   let (f,first) ← holding [ov] (getMethod ov m (do return (← importBound o env).getD true))
   callWith pos f first (backTo pos (starEach args env)) (backToKw pos (keywordEach [] env))):=fun ov=>by
  unfold methodCall calleeOf methodCallPos;rw [hf,hp];rfl
 simp only [e]
def zoM(hs:zaI cl G k rc)(g:Gx cl G k X nm N E){o:Expr}{m:Str}{args:List Expr}{kws:List Keyword}{ap pos:Pos}{w:Bool}{fe:Fe}(h:zoN G rc nm N o m ap pos args kws=some (w,fe)):(w=true->PE X (.Call (.Attribute o m ap) args kws pos) (tN cl E fe))/\PE X (.Call (.Attribute o m ap) args kws pos) (tE cl E fe):=by
 unfold zoN at h;split at h
 ·rename_i hc;simp only [yab,yay] at hc;obtain ⟨⟨⟨z1,z2⟩,z3⟩,z4⟩:=hc;obtain rfl:=ycm.mp z1;obtain ⟨⟨c,fi⟩,h1,h⟩:=zal h;dsimp only at h;split at h
  ·rename_i hl;obtain ⟨fo,h2,h⟩:=zal h;obtain ⟨fs,h3,h⟩:=zal h;cases h;obtain ⟨f,fd,ps,c1,c2,c3,c4⟩:=g.gok.mt m c fi h1;obtain ⟨a1,a2,a3⟩:=zeS hs g h3
   have hlen:fs.length+1=fi.ar:=by rw [a3];exact hl
   have hb:attributeBase o m X.env (eval o X.env)=eval o X.env:=by
    unfold zm3 at z2
    split at z2<;>first | rfl | cases z2
   have ht:=zj5 (ap:=ap) hb (zyI (pos:=pos) a2 z4) z3
   have main:PE X (.Call (.Attribute o m ap) args [] pos) (zfY (cl c) m (zin cl fi.ar fi.own fi.run) [] E (tE cl E fo) (tAs cl E fs)):=by
    cases args with
    | nil =>
     cases h3;refine PE.imp (zjQ (zaq hs g h2).1 c1 c2 c4 g.room c3 .nil g.pass ht) ?_;rintro σ H Q ⟨B,w,ρ,S,rfl,R,q⟩;refine ⟨B,w,ρ,S,rfl,R,?_⟩
     cases hfo:fo ρ S with
     | bad=>rwa [hfo] at q
     | exc c S1=>rwa [hfo] at q
     | ok d S1 =>
      rw [hfo] at q;intro v w1 R1 F1 sh;obtain ⟨a,dx,fs,e1,e2,e3,B',w',ρ',S',e4,R',q⟩:=q v w1 R1 F1 sh;refine ⟨a,dx,fs,e1,e2,e3,?_⟩;have:=q [] w' R' (Fut.refl _) .nil;rwa [e4] at this
    | cons e es =>
     rw [ybI,yab] at a2;exact zlA (zaq hs g h2).1 c1 c2 c4 g.room c3 .nil g.pass a1 (zaB a2.1) (zbz a2.2) ht
   cases ho:fi.own with
   | false =>
    rw [ho] at main;exact ⟨(fun z=>by cases z),PE.imp main fun _ _ _ q=>zrw q hlen⟩
   | true =>
    rw [ho] at main;have n:=PE.imp main fun _ _ _ q=>zrv q hlen
    exact ⟨fun _=>n,zbX n⟩
  ·cases h
 ·cases h
def ztZ(hs:zaI cl G k rc)(g:Gx cl G k X nm N E){x:Str}{args:List Expr}{p pos:Pos}{w:Bool}{fe:Fe}(h:mkG G rc nm N x args=some (w,fe)):w=false/\PE X (.Call (.Name x p) args [] pos) (tE cl E fe):=by
 unfold mkG at h;split at h
 ·rename_i hc;rw [yab] at hc;obtain ⟨⟨dds,fi⟩,h1,h⟩:=zal h;obtain ⟨fs,h2,h⟩:=zal h;dsimp only at h;obtain ⟨f,fd,ps,dvs,ds,k',hk,mC,M,B0,BD,vd,sd,F⟩:=g.gok.mks x dds fi h1;obtain ⟨a1,a2,a3⟩:=zeS hs g h2;obtain ⟨g1,g2,g3⟩:=g.glob hc.1
  cases args with
  | nil=>cases hc.2
  | cons e es =>
   rw [ybI,yab] at a2;have hr:Room (k'+1) X.A:=g.room.mono hk;split at h
   ·rename_i hl;cases h;exact ⟨rfl,PE.imp (zhL M F hr g1 mC B0 .nil g.pass a1 g2 (zaB a2.1) (zbz a2.2)) fun _ _ _ q=>zv2 (dds:=[]) (fun _=>.nil) q (by rw [a3];exact hl)⟩
   ·split at h
    ·rename_i hl;cases h;exact ⟨rfl,PE.imp (zhL M F hr g1 mC BD vd g.pass a1 g2 (zaB a2.1) (zbz a2.2)) fun _ _ _ q=>zv2 sd q (by rw [a3];exact hl)⟩
    ·cases h
 ·cases h
end
end S2
namespace S2
open PySem PySem.Spec PyProof.Rows L2
noncomputable def zrt:Expr->Option Str | .Name x _=>some x | _=>none
noncomputable def zul(df:Bool):Option NameKind->Bool | some .local=>true | some .cell=>df | _=>false
noncomputable def tgI(df:Bool)(nm:Names)(N:List Str)(n:Nat)(x:Str):Option Nat:=if zul df (nm.lookup x) then (idx N x).bind fun i=>if i<n then some i else none else none
noncomputable def zpA(df:Bool)(nm:Names)(N:List Str)(n:Nat):List Expr->Option (List Nat)
 | []=>some []
 | .Name x _::es=>(tgI df nm N n x).bind fun i=>(zpA df nm N n es).bind fun is=>some (i::is)
 | _::_=>none
noncomputable def tgG(df:Bool)(nm:Names)(N:List Str)(n:Nat):Expr->Option Tg
 | .Name x _=>(tgI df nm N n x).map .one
 | .Tuple es _ _=>(zpA df nm N n es).map .tup
 | _=>none
structure Sto'(X:Cx)(nm:Names)(df:Bool):Prop where
 fn:df=true->∀x,nm.lookup x=some .cell->X.fn x=true
section
variable{cl:Cf}{G:Genv}{k:Nat}{X:Cx}{nm:Names}{N:List Str}{E:St->XK}{df:Bool}{n:Nat}
def zc5(g:Gx cl G k X nm N E)(sd:Sto' X nm df){x:Str}{i:Nat}(h:tgI df nm N n x=some i):i<n/\X.N.Nodup/\X.N[i]?=some x/\Loc X.env.scope x/\(X.fn x=true\/X.env.scope.names.lookup x=some .local):=by
 unfold tgI at h;split at h
 ·rename_i hl
  cases hi:idx N x with
  | none=>rw [hi] at h;cases h
  | some j =>
   rw [hi] at h;dsimp only [Option.bind] at h;split at h
   ·rename_i hn;cases h;refine ⟨hn,by rw [g.eN];exact g.nd,by rw [g.eN];exact zfC hi,?_,?_⟩
    ·cases hk:nm.lookup x with
     | none=>rw [hk] at hl;cases hl
     | some kd =>
      obtain ⟨kd',e,z⟩:=g.vis x kd hk;rw [hk] at hl;unfold L2.Loc;rw [e]
      rcases z with rfl | ⟨rfl,_⟩
      ·cases kd'<;>first | exact .inl rfl | exact .inr rfl | cases hl
      ·cases hl
    ·cases hk:nm.lookup x with
     | none=>rw [hk] at hl;cases hl
     | some kd =>
      rw [hk] at hl
      cases kd<;>first | exact .inr (g.fnx x hk) | exact .inl (sd.fn hl x hk) | cases hl
   ·cases h
 ·cases h
theorem zi8(g:Gx cl G k X nm N E)(sd:Sto' X nm df):∀{es:List Expr} {is:List Nat},zpA df nm N n es=some is->PGs X es (tGs cl n is)/\(assignEach es X.env).length=is.length/\(assignEach es X.env).findIdx? (·.1)=none
 | [],is,h=>by cases h;exact ⟨zn7,rfl,rfl⟩
 | e::es,is,h=>by
  cases e with
  | Name x pos =>
   unfold zpA at h
   cases h1:tgI df nm N n x with
   | none=>rw [h1] at h;cases h
   | some i =>
    rw [h1] at h
    cases h2:zpA df nm N n es with
    | none=>rw [h2] at h;cases h
    | some is' =>
     rw [h2] at h;cases h;obtain ⟨a1,a2,a3,a4,a5⟩:=zc5 g sd h1;obtain ⟨b1,b2,b3⟩:=zi8 g sd h2;refine ⟨zlh a1 a2 a3 a4 a5 b1,?_,?_⟩
     ·show (assignEach es X.env).length+1=_;rw [b2];rfl
     ·show ((false,assign (.Name x pos) X.env)::assignEach es X.env).findIdx? (·.1)=none;rw [List.findIdx?_cons];simp [b3]
  | _=>cases h
def znH(g:Gx cl G k X nm N E)(sd:Sto' X nm df){tg:Expr}{t:Tg}(h:tgG df nm N n tg=some t):PG X tg (tG cl n t):=by
 unfold tgG at h;split at h
 ·rename_i x pos
  cases h1:tgI df nm N n x with
  | none=>rw [h1] at h;cases h
  | some i =>
   rw [h1] at h;cases h;obtain ⟨a1,a2,a3,a4,a5⟩:=zc5 g sd h1;exact zqm a1 a2 a3 a4 a5
 ·rename_i es kk pos
  cases h1:zpA df nm N n es with
  | none=>rw [h1] at h;cases h
  | some is =>
   rw [h1] at h;cases h;obtain ⟨b1,b2,b3⟩:=zi8 g sd h1;exact zql g.calm b1 b2 b3
 ·cases h
end
noncomputable def zaR:Expr->List Str
 | .Name x _=>[x]
 | .Tuple es _ _=>es.filterMap zrt
 | _=>[]
noncomputable def zaW(names:Names)(N:List Str):List (Str×Nat):=names.filterMap fun p=>if p.2=.free then (idx N p.1).map fun i=>(p.1,i) else none
noncomputable def zyA:Option NameKind->Bool | some .cell=>true | some .free=>true | _=>false
noncomputable def zkM(nm:Names)(scope:Scope)(xs:List Str)(caps:List (Str×Nat)):Bool :=
 decide (scope.kind=.function)&&decide ((scope.names.map (·.1)).Nodup)&&scope.names.all (fun y=>!decide (y.2=.local)||decide (scope.names.lookup y.1=some .local))
 && scope.names.all (fun y=>!decide (y.2=.free)||zyA (nm.lookup y.1))&&caps.all (fun p=>scope.names.all fun z=>!decide (z.1=p.1)||decide (z.2=.free))&&decide ((xs++caps.map (·.1)).Nodup)
noncomputable def zmw(rc:Rec)(nm:Names)(N:List Str):List Expr->Option Fe
 | []=>some zd8
 | [c]=>if zbr c then shE rc nm N c else none
 | _=>none
noncomputable def ziP(G:Genv)(rc:Rec)(nm:Names)(N:List Str)(elt:Expr)(g:Comprehension)(scope:Scope):Option Fe :=
 if decide (g.is_async=0)&&zkM nm scope (zaR g.target) (zaW scope.names N) then
  (ziH G rc nm N g.target g.iter).bind fun it =>
  (tgG true scope.names (zaR g.target++(zaW scope.names N).map (·.1)) (zaR g.target).length g.target).bind fun t =>
  (zmw rc scope.names (zaR g.target++(zaW scope.names N).map (·.1)) g.ifs).bind fun c =>
  (shE rc scope.names (zaR g.target++(zaW scope.names N).map (·.1)) elt).bind fun el =>
  some (zb0 (zaR g.target).length t it c el ((zaW scope.names N).map (·.2)))
 else none
theorem zcQ{scope:Scope}{env:PySem.Env}:∀{names:Names} {x:Str} {kd:NameKind},names.lookup x=some kd →
  ∃kd',(names.map fun (n,k)=>if (k == NameKind.free&&env.scope.kind == .function&&env.kindOf n == some .cell) then (n,NameKind.cell) else (n,k)).lookup x=some kd'/\(kd'=kd\/(kd=.free/\kd'=.cell))
 | [],_,_,h=>by cases h
 | (n,k0)::r,x,kd,h=>by
  rw [yaA] at h;rw [yau];dsimp only
  by_cases hc:(k0 == NameKind.free&&env.scope.kind == .function&&env.kindOf n == some .cell)=true
  ·rw [if_pos hc,yaA]
   cases hx:x == n with
   | true =>
    rw [hx] at h;cases h;simp only [yab,ycW] at hc;exact ⟨_,rfl,.inr ⟨hc.1.1,rfl⟩⟩
   | false=>rw [hx] at h;exact zcQ (scope:=scope) h
  ·rw [if_neg hc,yaA]
   cases hx:x == n with
   | true=>rw [hx] at h;cases h;exact ⟨_,rfl,.inl rfl⟩
   | false=>rw [hx] at h;exact zcQ (scope:=scope) h
section
variable{cl:Cf}{G:Genv}{k:Nat}{rc:Rec}{X:Cx}{nm:Names}{N:List Str}{E:St->XK}
def ziO(g:Gx cl G k X nm N E){scope:Scope}{xs:List Str}(h:zkM nm scope xs (zaW scope.names N)=true):CompScopeG X.env.scope scope X.N xs (zaW scope.names N)/\(xs++(zaW scope.names N).map (·.1)).Nodup:=by
 unfold zkM at h;simp only [yab,ybk,yay,ycw,ybA,ybT] at h;obtain ⟨⟨⟨⟨⟨h1,h2⟩,h3⟩,h4⟩,h5⟩,h6⟩:=h
 have fr:∀y∈scope.names,y.2=.free->X.env.scope.names.lookup y.1=some .cell\/X.env.scope.names.lookup y.1=some .free:=fun y hy hf=>by
  rcases h4 y hy with z | z
  ·exact absurd hf z
  ·cases hk:nm.lookup y.1 with
   | none=>rw [hk] at z;cases z
   | some kd =>
    obtain ⟨kd',e,zz⟩:=g.vis y.1 kd hk;rw [hk] at z;rw [e]
    rcases zz with rfl | ⟨_,rfl⟩
    ·cases kd'<;>first | exact .inl rfl | exact .inr rfl | cases z
    ·exact .inl rfl
 refine ⟨⟨h2,h1,fun y hy hl=>(h3 y hy).elim (fun z=>absurd hl z) fun z=>z,fr,fun p hp=>?_,fun p hp z hz e=>(h5 p hp z hz).elim (fun w=>absurd e w) fun w=>w⟩,h6⟩;unfold zaW at hp;obtain ⟨q,hq,e⟩:=yb2.mp hp;split at e
 ·rename_i hf
  cases hi:idx N q.1 with
  | none=>rw [hi] at e;cases e
  | some i =>
   rw [hi] at e;have e':(q.1,i)=p:=Option.some.inj e;subst e';refine ⟨by rw [g.eN];exact zfC hi,by rw [<-hf];exact hq,?_⟩
   rcases fr q hq hf with z | z<;>rw [z]<;>exact fun w=>by cases w
 ·cases e
def zfB(g:Gx cl G k X nm N E){scope:Scope}{xs:List Str}(hn:(xs++(zaW scope.names N).map (·.1)).Nodup)(cl':List (Str×Addr))(C:Addr)(s:Shared)(H:Hp)(fp:List Addr) :
  Gx cl G k (zaT X xs (zaW scope.names N) scope cl' C s H fp) scope.names (xs++(zaW scope.names N).map (·.1)) noE where
 gok:=g.gok
 room:=g.room
 calm:=g.calm
 pass:=fun pins σ H s e s' I q=>by
  obtain ⟨a,cls,a0,H',B,_,_,_,_,_,_,_,_,_,z⟩:=q;exact z.elim
 eN:=rfl
 kk:=g.kk
 pp:=g.pp
 ww:=g.ww
 nd:=hn
 vis:=fun x kd h=>zcQ (scope:=scope) h
 fnx:=fun x h=>lookup_relabel_local h
def zpj(hs:zaI cl G k rc)(g:Gx cl G k X nm N noE){ifs:List Expr}{c:Fe}(h:zmw rc nm N ifs=some c):PIf X ifs (tTr cl noE c):=by
 unfold zmw at h;split at h
 ·cases h;intro pins s σ H Q I q;obtain ⟨B,w,ρ,S,rfl,R,q⟩:=q;exact zov pins s σ w.H Q I (q w R (Fut.refl _))
 ·split at h
  ·rename_i c ht;obtain ⟨_,a2,_⟩:=zaq hs g h;exact zou (a2 ht)
  ·cases h
 ·cases h
def ze4(hs:zaI cl G k rc)(g:Gx cl G k X nm N E){elt:Expr}{gg:Comprehension}{scope:Scope}{f:Fe}(h:ziP G rc nm N elt gg scope=some f) :
  ∃it t c el,f=zb0 (zaR gg.target).length t it c el ((zaW scope.names N).map (·.2))/\gg=⟨gg.target,gg.iter,gg.ifs,0⟩/\CompScopeG X.env.scope scope X.N (zaR gg.target) (zaW scope.names N)/\PI X gg.target gg.iter (tI cl E it)/\okE gg.iter=true ∧
   (∀cl' C s H fp,PG (zaT X (zaR gg.target) (zaW scope.names N) scope cl' C s H fp) gg.target (tG cl (zaR gg.target).length t)) ∧
   (∀cl' C s H fp,PIf (zaT X (zaR gg.target) (zaW scope.names N) scope cl' C s H fp) gg.ifs (tTr cl noE c)) ∧
   ∀cl' C s H fp,PE (zaT X (zaR gg.target) (zaW scope.names N) scope cl' C s H fp) elt (tE cl noE el):=by
 unfold ziP at h;split at h
 ·rename_i hc;rw [yab] at hc;obtain ⟨S,hn⟩:=ziO g hc.2
  cases h1:ziH G rc nm N gg.target gg.iter with
  | none=>rw [h1] at h;cases h
  | some it =>
   rw [h1] at h;dsimp only [Option.bind] at h
   cases h2:tgG true scope.names (zaR gg.target++(zaW scope.names N).map (·.1)) (zaR gg.target).length gg.target with
   | none=>rw [h2] at h;cases h
   | some t =>
    rw [h2] at h;dsimp only at h
    cases h3:zmw rc scope.names (zaR gg.target++(zaW scope.names N).map (·.1)) gg.ifs with
    | none=>rw [h3] at h;cases h
    | some c =>
     rw [h3] at h;dsimp only at h
     cases h4:shE rc scope.names (zaR gg.target++(zaW scope.names N).map (·.1)) elt with
     | none=>rw [h4] at h;cases h
     | some el =>
      rw [h4] at h;cases h;obtain ⟨i1,i2⟩:=zko hs g (tg:=gg.target) h1;refine ⟨it,t,c,el,rfl,?_,S,i1,i2,fun cl' C s H fp=>znH (zfB g hn cl' C s H fp) ⟨fun _ x hx=>yaH hx⟩ h2,fun cl' C s H fp=>zpj hs (zfB g hn cl' C s H fp) h3,fun cl' C s H fp=>(zaq hs (zfB g hn cl' C s H fp) h4).1⟩;have:=yaj hc.1;cases gg;simp only at this;rw [this]
 ·cases h
def zkK(hs:zaI cl G k rc)(g:Gx cl G k X nm N E){elt:Expr}{gg:Comprehension}{scope:Scope}{f:Fe}{pos:Pos}(h:ziP G rc nm N elt gg scope=some f):PE X (.ListComp elt [gg] scope pos) (tN cl E f):=by
 obtain ⟨it,t,c,el,rfl,eg,S,i1,i2,i3,i4,i5⟩:=ze4 hs g h;rw [eg];exact PE.imp (zlF g.calm S i1 i3 i4 i5 (zfq i2)) fun _ _ _ q=>zny q
end
noncomputable def zwZ:Expr->Bool | .Slice _ _ _ _=>false | _=>true
noncomputable def zsy(rc:Rec)(nm:Names)(N:List Str):Option Expr->Option (Option Fe)
 | none=>some none
 | some e=>(opE rc nm N e).map some
noncomputable def zv1(m:Str):Option (List D->D->Option D):=if m = "count" then some zdo else if m = "index" then some zgu else none
def zkJ:∀(l:List D) (d r:D),zdo l d=some r->∃n,r=.int n:=by
 intro l d r h;unfold zdo at h;split at h
 ·cases h;exact ⟨_,rfl⟩
 ·cases h
def zkv:∀(l:List D) (d r:D),zgu l d=some r->∃n,r=.int n:=by
 intro l d r h;unfold zgu at h;split at h
 ·cases h;exact ⟨_,rfl⟩
 ·cases h
noncomputable def unG(rc:Rec)(nm:Names)(N:List Str)(a:Expr):UnaryOp->Option (Bool×Fe)
 | .Not=>if zbr a then (shE rc nm N a).map fun f=>(false,eUn zlP f) else none
 | .USub=>(opE rc nm N a).map fun f=>(false,eUn zpE f)
 | _=>none
noncomputable def zr6(rc:Rec)(nm:Names)(N:List Str)(a:Expr):List CmpOp->List Expr->Option (Bool×Fe)
 | [op],[b]=>(zr7 op b).bind fun g=>(opE rc nm N a).bind fun f=>(opE rc nm N b).bind fun h=>some (false,zaj g f h)
 | [op,op'],[b,c]=>(zr7 op b).bind fun g=>(zr7 op' c).bind fun g'=>(opE rc nm N a).bind fun f=>(opE rc nm N b).bind fun h=>(opE rc nm N c).bind fun k=>some (false,zdn g g' f h k)
 | _,_=>none
noncomputable def zvQ(rc:Rec)(nm:Names)(N:List Str)(a:Expr):Expr->Option (Bool×Fe)
 | .Slice lo hi none _=>(opE rc nm N a).bind fun f=>(zsy rc nm N lo).bind fun l=>(zsy rc nm N hi).bind fun u=>some (false,eSl f l u)
 | i=>if zwZ i then (opE rc nm N a).bind fun f=>(opE rc nm N i).bind fun h=>some (false,zaj ixD f h) else none
noncomputable def zw5(rc:Rec)(nm:Names)(N:List Str)(x m:Str)(ap cp:Pos):List Expr->List Keyword->Option (Bool×Fe)
 | [a],[]=>if ap.endLine == cp.line then (zaQ nm N x).bind fun i=>(opE rc nm N a).bind fun f=>(zv1 m).bind fun g=>some (false,eMt g i f) else none
 | [a,b],[]=>if decide (m = "get")&&(ap.endLine == cp.line) then (zaQ nm N x).bind fun i=>(shE rc nm N a).bind fun f=>(shE rc nm N b).bind fun h=>some (false,zeO i f h) else none
 | _,_=>none
noncomputable def znB(G:Genv)(rc:Rec)(nm:Names)(N:List Str)(args:List Expr)(kws:List Keyword)(cp:Pos):Expr->Option (Bool×Fe)
 | .Attribute o m ap=>(match (nmF o).bind fun x=>zw5 rc nm N x.1 m ap cp args kws with | some p=>some p | none=>(match dpG G rc nm N o m ap cp args kws with | some p=>some p | none=>zoN G rc nm N o m ap cp args kws))
 | .Name x _=>if kws.isEmpty then (match mkG G rc nm N x args with | some p=>some p | none=>(match spG G rc nm N x args with | some p=>some p | none=>(match srG G rc nm N x args with | some p=>some p | none=>zpn G rc nm N x args))) else none
 | _=>none
noncomputable def lcG(G:Genv)(rc:Rec)(nm:Names)(N:List Str)(elt:Expr)(scope:Scope):List Comprehension->Option (Bool×Fe)
 | [g]=>(ziP G rc nm N elt g scope).map fun f=>(true,f)
 | _=>none
noncomputable def zhm(G:Genv)(rc:Rec):Rec:=fun nm N e=>match e with
 | .Constant c _ _=>(zw3 c).map fun d=>(false,zas d)
 | .Name x _=>(match zaQ nm N x with
  | some i=>some (false,zak i)
  | none=>if zbq nm x then (G.con x).map fun d=>(false,zas d) else none)
 | .Tuple es _ _=>(shL rc nm N es).map fun fs=>(false,zgO fs)
 | .List es _=>(shL rc nm N es).map fun fs=>(true,ziL fs)
 | .BinOp a op b _=>if zo5 a&&zrP op then (opE rc nm N a).bind fun f=>(opE rc nm N b).bind fun h=>some (true,zaj ziA f h) else (zuJ op).bind fun g=>(opE rc nm N a).bind fun f=>(opE rc nm N b).bind fun h=>some (false,zaj g f h)
 | .UnaryOp op a _=>unG rc nm N a op
 | .BoolOp op es _=>(ziT rc nm N op es).map fun f=>(false,f)
 | .Compare a ops bs _=>(match ztY G rc nm N a ops bs with | some p=>some p | none=>zr6 rc nm N a ops bs)
 | .IfExp c a b _=>if zbr c then (shE rc nm N c).bind fun g=>(shE rc nm N a).bind fun f=>(shE rc nm N b).bind fun h=>some (false,eIf g f h) else none
 | .Subscript a i _=>(match zuq G rc nm N a i with | some p=>some p | none=>zvQ rc nm N a i)
 | .Attribute o f _=>zuu G rc nm N o f
 | .Call f args kws cp=>znB G rc nm N args kws cp f
 | .ListComp elt gs scope _=>lcG G rc nm N elt scope gs
 | .Dict [] [] _=>some (true,zfH)
 | _=>none
noncomputable def zuG(G:Genv):Nat->Rec
 | 0=>fun _ _ _=>none
 | n+1=>zhm G (zuG G n)
section
variable{cl:Cf}{G:Genv}{k:Nat}{rc:Rec}
def zmb{i:Expr}(h:zwZ i=true):zfQ i:=by
 intro o j
 cases i<;>first | rfl | cases h
def zaa{α β:Type}{o:Option α}{f:α->Option β}{b:β}(h:o.bind f=some b):∃a,o=some a/\f a=some b:=by
 cases o with
 | none=>cases h
 | some a=>exact ⟨a,rfl,h⟩
def map_some{α β:Type}{o:Option α}{f:α->β}{b:β}(h:o.map f=some b):∃a,o=some a/\f a=b:=by
 cases o with
 | none=>cases h
 | some a=>exact ⟨a,rfl,Option.some.inj h⟩
def zhO{X:Cx}{nm:Names}{N:List Str}{E:St->XK}(hs:zaI cl G k rc)(g:Gx cl G k X nm N E){o:Option Expr}{f:Option Fe}(h:zsy rc nm N o=some f):PO X o (zsu cl E f):=by
 unfold zsy at h;split at h
 ·cases h;exact zos
 ·obtain ⟨a,h1,rfl⟩:=map_some h;exact zor (zbG hs g h1).1
def zmt(hs:zaI cl G k rc):zaI cl G k (zhm G rc):=by
 intro X nm N E g e o f h;unfold zhm at h;split at h
 ·obtain ⟨d,h1,h2⟩:=map_some h;cases h2;rename_i c kk pos
  have p:PE X (.Constant c kk pos) (tE cl E (zas d)):=by
   cases c<;>simp [zw3] at h1<;>subst h1
   ·exact zjs zq3 fun w=>.non
   ·exact zjs ztO fun w=>.bl _
   ·exact zjs zq5 fun w=>.int _
   ·exact zjs zqZ fun w=>.str _
  exact ⟨(fun z=>by cases z),p,fun _=>zaP p (fun _=>rfl),rfl⟩
 ·rename_i x pos;split at h
  ·rename_i i hi;cases h;obtain ⟨h1,h2,h3,h4⟩:=g.slot hi;have p:PE X (.Name x pos) (tE cl E (zak i)):=zqn h1 h2 h3 h4;exact ⟨(fun z=>by cases z),p,fun _=>zaP p (fun _=>rfl),rfl⟩
  ·split at h
   ·rename_i hg;obtain ⟨d,h1,h2⟩:=map_some h;cases h2;obtain ⟨g1,g2,g3⟩:=g.glob hg;obtain ⟨v,u,m,r,sh⟩:=g.gok.con x d h1;have p:PE X (.Name x pos) (tE cl E (zas d)):=zjs (zox g1 m r g2) sh;exact ⟨(fun z=>by cases z),p,fun _=>zaP p (fun _=>rfl),rfl⟩
   ·cases h
 ·obtain ⟨fs,h1,h2⟩:=map_some h;cases h2;rename_i es kk pos;have p:PE X (.Tuple es kk pos) (tE cl E (zgO fs)):=zqo (zeS hs g h1).1;exact ⟨(fun z=>by cases z),p,fun _=>zaP p (fun _=>rfl),rfl⟩
 ·obtain ⟨fs,h1,h2⟩:=map_some h;cases h2;rename_i es pos;have p:PE X (.List es pos) (tN cl E (ziL fs)):=zqu (zeS hs g h1).1;exact ⟨fun _=>p,zbX p,fun _=>zaP (zbX p) (fun _=>rfl),rfl⟩
 ·split at h
  ·rename_i a op b pos hm;obtain ⟨fa,h2,h⟩:=zaa h;obtain ⟨fb,h3,h⟩:=zaa h;cases h;rw [yab] at hm
   have ho:op=.Mult:=by cases op<;>first | rfl | cases hm.2
   subst ho;have p:PE X (.BinOp a .Mult b pos) (tN cl E (zaj ziA fa fb)):=zoc (zbG hs g h2).1 (zbG hs g h3).1;exact ⟨fun _=>p,zbX p,fun _=>zaP (zbX p) (fun _=>rfl),rfl⟩
  obtain ⟨gg,h1,h⟩:=zaa h;obtain ⟨fa,h2,h⟩:=zaa h;obtain ⟨fb,h3,h⟩:=zaa h;cases h;exact ⟨(fun z=>by cases z),zmZ (znC h1) (zbG hs g h2).1 (zbG hs g h3).1,fun _=>zaP (zmZ (znC h1) (zbG hs g h2).1 (zbG hs g h3).1) (fun _=>rfl),rfl⟩
 ·rename_i op a pos;unfold unG at h;split at h
  ·split at h
   ·rename_i ht;obtain ⟨fa,h1,h2⟩:=map_some h;cases h2;obtain ⟨a1,a2,_⟩:=zaq hs g h1;exact ⟨(fun z=>by cases z),zqr a1,fun _=>zp4 (a2 ht),rfl⟩
   ·cases h
  ·obtain ⟨fa,h1,h2⟩:=map_some h;cases h2;have p:PE X (.UnaryOp .USub a pos) (tE cl E (eUn zpE fa)):=ztA zpN (zbG hs g h1).1;exact ⟨(fun z=>by cases z),p,fun _=>zaP p (fun _=>rfl),rfl⟩
  ·cases h
 ·obtain ⟨fa,h1,h2⟩:=map_some h;cases h2;rename_i op es pos;obtain ⟨b1,b2⟩:=zkW hs g (pos:=pos) h1;exact ⟨(fun z=>by cases z),b1,fun _=>b2.pt,rfl⟩
 ·rename_i a ops bs pos;split at h
  ·rename_i p hp;obtain ⟨w,fe⟩:=p;cases h;obtain ⟨rfl,n1,n2⟩:=zrp hs g (pos:=pos) hp;exact ⟨(fun z=>by cases z),n1,fun _=>n2,rfl⟩
  unfold zr6 at h;split at h
  ·obtain ⟨gg,h1,h⟩:=zaa h;obtain ⟨fa,h2,h⟩:=zaa h;obtain ⟨fb,h3,h⟩:=zaa h;cases h;obtain ⟨a1,_⟩:=zbG hs g h2;obtain ⟨b1,b2⟩:=zbG hs g h3;exact ⟨(fun z=>by cases z),zqz (ze5 g h1) a1 b1 (zei b2),fun _=>zp6 (ze5 g h1) a1 b1 (zei b2),rfl⟩
  ·obtain ⟨gg,h1,h⟩:=zaa h;obtain ⟨gg',h1',h⟩:=zaa h;obtain ⟨fa,h2,h⟩:=zaa h;obtain ⟨fb,h3,h⟩:=zaa h;obtain ⟨fc,h4,h⟩:=zaa h;cases h;obtain ⟨a1,_⟩:=zbG hs g h2;obtain ⟨b1,_⟩:=zbG hs g h3;obtain ⟨c1,c2⟩:=zbG hs g h4;have hm:∀{op op':CmpOp} {b c:Expr},okE c=true->lastMarks [op,op'] [b,c]=false:=fun h=>zei h
   exact ⟨(fun z=>by cases z),zlj (ze5 g h1) (ze5 g h1') a1 b1 c1 (hm c2),fun _=>zle (ze5 g h1) (ze5 g h1') a1 b1 c1 (hm c2),rfl⟩
  ·cases h
 ·split at h
  ·rename_i c a b pos ht;obtain ⟨fc,h1,h⟩:=zaa h;obtain ⟨fa,h2,h⟩:=zaa h;obtain ⟨fb,h3,h⟩:=zaa h;cases h;obtain ⟨_,c2,_⟩:=zaq hs g h1;exact ⟨(fun z=>by cases z),ztD (c2 ht) (zaq hs g h2).1 (zaq hs g h3).1,(fun z=>by cases z),rfl⟩
  ·cases h
 ·rename_i a i pos;split at h
  ·rename_i p hp;obtain ⟨w,fe⟩:=p;cases h;obtain ⟨rfl,n1⟩:=zrT hs g (pos:=pos) hp;exact ⟨(fun z=>by cases z),n1,fun _=>zaP n1 (fun _=>rfl),rfl⟩
  unfold zvQ at h;split at h
  ·obtain ⟨fa,h1,h⟩:=zaa h;obtain ⟨fl,h2,h⟩:=zaa h;obtain ⟨fu,h3,h⟩:=zaa h;cases h;exact ⟨(fun z=>by cases z),zqq (zbG hs g h1).1 (zhO hs g h2) (zhO hs g h3),fun _=>zaP (zqq (zbG hs g h1).1 (zhO hs g h2) (zhO hs g h3)) (fun _=>rfl),rfl⟩
  ·split at h
   ·rename_i hix;obtain ⟨fa,h1,h⟩:=zaa h;obtain ⟨fb,h2,h⟩:=zaa h;cases h;have p:PE X (.Subscript a _ pos) (tE cl E (zaj ixD fa fb)):=ztC (zum g.kk) (zbG hs g h1).1 (zbG hs g h2).1 (zmb hix);exact ⟨(fun z=>by cases z),p,fun _=>zaP p (fun _=>rfl),rfl⟩
   ·cases h
 ·rename_i o fl pos;obtain ⟨rfl,n1⟩:=zrW hs g (pos:=pos) h;exact ⟨(fun z=>by cases z),n1,fun _=>zaP n1 (fun _=>rfl),rfl⟩
 ·rename_i fn args kws cp;unfold znB at h;split at h
  ·rename_i o m ap;split at h
   rotate_left
   ·split at h
    ·rename_i hdp;cases h;obtain ⟨rfl,n1⟩:=zuD hs g hdp;exact ⟨(fun z=>by cases z),n1,fun _=>zaP n1 (fun _=>rfl),rfl⟩
    ·obtain ⟨a1,a2⟩:=zoM hs g (ap:=ap) (pos:=cp) h;exact ⟨a1,a2,fun _=>zaP a2 (fun _=>rfl),rfl⟩
   rename_i pp hpp;obtain ⟨⟨x,p⟩,e1,h2⟩:=zaa hpp;have e2:=zgl e1;have h3:=h;cases h3;clear hpp e1;subst e2;replace h:=h2;clear h2;dsimp only at h ⊢;unfold zw5 at h;split at h
   ·rename_i a;split at h
    ·rename_i hln;obtain ⟨i,h1,h⟩:=zaa h;obtain ⟨fa,h2,h⟩:=zaa h;obtain ⟨gg,h3,h⟩:=zaa h;cases h;obtain ⟨n1,n2,n3,n4⟩:=g.slot h1;obtain ⟨a1,a2⟩:=zbG hs g h2
     have p:PE X (.Call (.Attribute (.Name x p) m ap) [a] [] cp) (tE cl E (eMt gg i fa)):=by
      unfold zv1 at h3;split at h3
      ·rename_i em;cases h3;subst em;exact zqt PySem.F.slot_list_count PySem.F.type_list_count (zlY g.kk g.units) zkJ n1 n2 n3 n4 a1 (zab a2) hln
      ·split at h3
       ·rename_i em;cases h3;subst em;exact zqt PySem.F.slot_list_index PySem.F.type_list_index (zlX g.kk g.units) zkv n1 n2 n3 n4 a1 (zab a2) hln
       ·cases h3
     exact ⟨(fun z=>by cases z),p,fun _=>zaP p (fun _=>rfl),rfl⟩
    ·cases h
   ·rename_i a b;split at h
    ·rename_i hc;rw [yab] at hc;have em:=yaj hc.1;obtain ⟨i,h1,h⟩:=zaa h;obtain ⟨fa,h2,h⟩:=zaa h;obtain ⟨fb,h3,h⟩:=zaa h;cases h;subst em;obtain ⟨n1,n2,n3,n4⟩:=g.slot h1;obtain ⟨a1,a2,a3⟩:=zaq hs g h2;obtain ⟨b1,b2,b3⟩:=zaq hs g h3;have q:PE X (.Call (.Attribute (.Name x p) "get" ap) [a,b] [] cp) (tE cl E (zeO i fa fb)):=zoe (by have:=g.units;omega) n1 n2 n3 n4 a1 b1 ⟨rfl,zev (by simp [zab a3,zab b3]) (by simp),hc.2,by rw [zaB (zab a3),zaB (zab b3)];rfl⟩;exact ⟨(fun z=>by cases z),q,fun _=>zaP q (fun _=>rfl),rfl⟩
    ·cases h
   ·cases h
  ·rename_i x p;split at h
   ·rename_i hk
    have hk':kws=[]:=by simpa using hk
    subst hk';split at h
    ·rename_i pm hmk;obtain ⟨w,fe⟩:=pm;cases h;obtain ⟨rfl,n1⟩:=ztZ hs g (p:=p) (pos:=cp) hmk;exact ⟨(fun z=>by cases z),n1,fun _=>zaP n1 (fun _=>rfl),rfl⟩
    split at h
    ·rename_i hsp;cases h;obtain ⟨a1,a2⟩:=zty hs g (p:=p) (pos:=cp) hsp;exact ⟨a1,a2,fun _=>zaP a2 (fun _=>rfl),rfl⟩
    split at h
    ·rename_i hsp;cases h;obtain ⟨a1,a2⟩:=ztw hs g (p:=p) (pos:=cp) hsp;exact ⟨a1,a2,fun _=>zaP a2 (fun _=>rfl),rfl⟩
    ·obtain ⟨a1,a2⟩:=zpm hs g (p:=p) (pos:=cp) h;exact ⟨a1,a2,fun _=>zaP a2 (fun _=>rfl),rfl⟩
   ·cases h
  ·cases h
 ·rename_i elt gs scope pos;unfold lcG at h;split at h
  ·obtain ⟨fa,h1,h2⟩:=map_some h;cases h2;rename_i gg;have p:PE X (.ListComp elt [gg] scope pos) (tN cl E f):=zkK hs g h1;exact ⟨fun _=>p,zbX p,fun _=>zaP (zbX p) (fun _=>rfl),rfl⟩
  ·cases h
 ·rename_i pos;cases h;exact ⟨fun _=>zgX,zbX zgX,fun _=>zaP (zbX zgX) (fun _=>rfl),rfl⟩
 ·cases h
theorem znv:∀n,zaI cl G k (zuG G n)
 | 0=>fun _ _ _ _ _ _ _ _ h=>by cases h
 | n+1=>zmt (znv n)
end
end S2
namespace S2
open PySem PySem.Spec PyProof.Rows L2
noncomputable def zpy(X:Cx)(E:St->XK):Prop:=∀(C:Addr) (pins:Z3) (σ:St) (H:Hp) (s:Shared) (e:Addr) (h':Heap) (vs:List Value),Inv X pins σ H s->Heap.MadeExcOf s.heap h' e (.ref C) vs->E σ (.ref C) none H->X.xe (.ref e) { s with heap:=h' }
noncomputable def zth(C:Addr)(E:St->XK)(t:TA):TS:=fun _ σ H=>t σ H fun vs H1=>vs.length<=sizeLine/\E σ (.ref C) none H1
noncomputable def zyV(X:Cx)(pins:Z3)(E:St->XK):Cx:={ X with pn:=X.pn++pins,xe:=fun e s'=>∃σ H1 s1,Inv X pins σ H1 s1/\CXE X.prog X.w X.stack H1 s1 (E σ) e s' }
section
variable{X:Cx}{pins:Z3}{σ:St}{H:Hp}{s:Shared}{E:St->XK}
end
noncomputable def zyW(K:PySem.W.Frag)(C:Addr)(i:Nat)(th:TS)(De:Ends):St->XK:=fun σ cls _ H'=>∃C',cls=.ref C'/\zpx K C' C/\∀a ob,H' a=none->ob.cls=.ref C'->th (De.goes i) (σ.set i (some (.ref a))) (upd H' a (.frz ob (.own a)))
section
variable{X:Cx}{cl:Cf}{E:St->XK}{own:Bool}
end
end S2
namespace S2
open PySem PySem.Spec PyProof.Rows L2
noncomputable def Base.hold(B:Base)(p:Addr)(o:HO):Base:=⟨fun a=>if a=p then some o else B.Fr a,fun a=>if a=p then some .far else B.fw a⟩
noncomputable def Wd.claim(w:Wd)(p:Addr)(r:Root):Wd:=⟨w.H,fun a=>if a=p then some r else if w.ow a=some r then some .far else w.ow a,w.mu⟩
section
variable{cl:Cf}{B:Base}{σ:St}{w:Wd}{ρ:Env}{S:Sto}
theorem Rel.hold{p:Addr}{o:HO}(R:Rel cl B σ w ρ S)(hp:w.H p=none):Rel cl (B.hold p o) σ (w.addAs p o .far) ρ S:=by
 have ff:=zba (w:=w) (p:=p) (o:=o) (r:=.far) hp
 have kp:∀a u,w.H a=some u->(w.addAs p o .far).H a=some u/\(w.addAs p o .far).ow a=w.ow a:=fun a u ha=>by
  have n:a≠p:=zai ha hp;refine ⟨?_,?_⟩
  ·show upd w.H p o a=_;rw [zag n];exact ha
  ·show (if a=p then _ else if w.ow a=some Root.far then some Root.far else w.ow a)=_;rw [if_neg n];split
   ·rename_i e;exact e.symm
   ·rfl
 refine ⟨⟨fun a u h=>?_,fun a r h=>?_,R.wd.len,fun n ob h=>?_⟩,R.len,fun j b e hj=>?_⟩
 ·by_cases ha:a=p
  ·subst ha;have h':(if a=a then some o else B.Fr a)=some u:=h;rw [if_pos rfl] at h';cases h';exact ⟨zam,by show (if a=a then some Root.far else _)=(if a=a then some Root.far else _);rw [if_pos rfl,if_pos rfl]⟩
  ·have h':(if a=p then some o else B.Fr a)=some u:=h;rw [if_neg ha] at h';have:=kp a u (R.wd.fr a u h').1;refine ⟨this.1,this.2.trans ?_⟩;show _=(if a=p then some Root.far else B.fw a);rw [if_neg ha];exact (R.wd.fr a u h').2
 ·by_cases ha:a=p
  ·have h':(if a=p then some Root.far else if w.ow a=some Root.far then some Root.far else w.ow a)=some r:=h;rw [if_pos ha] at h';cases h';exact .inl rfl
  ·have h':(if a=p then some Root.far else if w.ow a=some Root.far then some Root.far else w.ow a)=some r:=h;rw [if_neg ha] at h';split at h'
   ·cases h';exact .inl rfl
   ·rcases R.wd.own a r h' with z | z
    ·exact .inl z
    ·refine .inr ?_;show (if a=p then some o else B.Fr a)=none;rw [if_neg ha];exact z
 ·obtain ⟨a,e,x⟩:=R.wd.obj n ob h;exact ⟨a,e,x.keep ff fun b u hb _=>kp b u hb⟩
 ·obtain ⟨v,e1,x⟩:=R.slots j b e hj;exact ⟨v,e1,x.keep ff fun a u ha hr=>⟨(kp a u ha).1,(kp a u ha).2.trans hr⟩⟩
def Rel.unhold{p:Addr}{o:HO}(R:Rel cl (B.hold p o) σ w ρ S)(hB:B.Fr p=none):Rel cl B σ w ρ S:=by
 refine ⟨⟨fun a u h=>?_,fun a r h=>?_,R.wd.len,R.wd.obj⟩,R.len,R.slots⟩
 ·have na:a≠p:=fun z=>by rw [z,hB] at h;cases h
  have h2:=R.wd.fr a u (show (if a=p then some o else B.Fr a)=some u by rw [if_neg na];exact h);exact ⟨h2.1,h2.2.trans (show (if a=p then some Root.far else B.fw a)=_ from if_neg na)⟩
 ·rcases R.wd.own a r h with z | z
  ·exact .inl z
  ·have z':(if a=p then some o else B.Fr a)=none:=z;split at z'
   ·cases z'
   ·exact .inr z'
def zet{p:Addr}{r:Root}(h:w.ow p≠none):Fut w (w.claim p r) where
 keep:=fun a u ha hk=>by
  have n:a≠p:=fun z=>h (by rw [<-z];exact hk)
  refine ⟨ha,?_⟩;show (if a=p then some r else if w.ow a=some r then some Root.far else w.ow a)=none;rw [if_neg n,if_neg (by rw [hk];exact fun z=>by cases z)];exact hk
 mu:=fun _ _ h=>h
theorem Rel.claim{i:Nat}{p:Addr}{o:HO}{d:D}(R:Rel cl (B.hold p o) σ w ρ S)(hB:B.Fr p=none)(t:Top cl w o d):Rel cl B (σ.set i (some (.ref p))) (w.claim p (.slot i)) (ρ.set i (some (true,d))) S:=by
 have hp:=R.wd.fr p o (show (if p=p then some o else B.Fr p)=some o from if_pos rfl);have hfar:w.ow p=some .far:=hp.2.trans (show (if p=p then some Root.far else B.fw p)=_ from if_pos rfl);have ff:=zet (w:=w) (p:=p) (r:=.slot i) (by rw [hfar];exact yaC _)
 have kp:∀a u,w.H a=some u->w.ow a≠some .far->w.ow a≠some (.slot i)->(w.claim p (.slot i)).H a=some u/\(w.claim p (.slot i)).ow a=w.ow a:=fun a u ha hk hk2=>by
  have n:a≠p:=fun z=>hk (by rw [z];exact hfar)
  refine ⟨ha,?_⟩;show (if a=p then _ else if w.ow a=some (Root.slot i) then some Root.far else w.ow a)=_;rw [if_neg n,if_neg hk2]
 refine ⟨⟨fun a u h=>?_,fun a r h=>?_,R.wd.len,fun n ob h=>?_⟩,by rw [yaI,yaI];exact R.len,fun j b e hj=>?_⟩
 ·have na:a≠p:=fun z=>by rw [z,hB] at h;cases h
  have h2:=R.wd.fr a u (show (if a=p then some o else B.Fr a)=some u by rw [if_neg na];exact h);have h3:w.ow a=B.fw a:=h2.2.trans (show (if a=p then some Root.far else B.fw a)=_ from if_neg na)
  have hne:w.ow a≠some (.slot i):=fun z=>by
   rcases R.wd.own a _ z with y | y
   ·cases y
   ·have y':(if a=p then some o else B.Fr a)=none:=y;rw [if_neg na,h] at y';cases y'
  refine ⟨h2.1,?_⟩;show (if a=p then some (Root.slot i) else if w.ow a=some (Root.slot i) then some Root.far else w.ow a)=_;rw [if_neg na,if_neg hne];exact h3
 ·have h':(if a=p then some (Root.slot i) else if w.ow a=some (Root.slot i) then some Root.far else w.ow a)=some r:=h;split at h'
  ·rename_i e;rw [e];exact .inr hB
  ·rename_i na;split at h'
   ·cases h';exact .inl rfl
   ·rcases R.wd.own a r h' with z | z
    ·exact .inl z
    ·have z':(if a=p then some o else B.Fr a)=none:=z;rw [if_neg na] at z';exact .inr z'
 ·obtain ⟨a,e,x⟩:=R.wd.obj n ob h;exact ⟨a,e,x.keep ff fun b u hb hn=>kp b u hb (fun z=>by rwa [z] at hn) (fun z=>by rwa [z] at hn)⟩
 ·by_cases hij:i=j
  ·subst hij
   have hlt:i<ρ.length:=by
    have:=(yam.mp hj).1;rwa [yaI] at this
   rw [yaM hlt] at hj;cases hj;exact ⟨.ref p,by rw [yaM (by rw [R.len];exact hlt)],p,o,rfl,if_pos rfl,hp.1,t.up ff⟩
  ·rw [ya2 hij] at hj ⊢;obtain ⟨v,e1,x⟩:=R.slots j b e hj;refine ⟨v,e1,x.keep ff fun a u ha hr=>?_⟩;have:=kp a u ha (by rw [hr];exact fun z=>by cases z) (by rw [hr];exact fun z=>hij (by cases z;rfl));exact ⟨this.1,this.2.trans hr⟩
end
noncomputable def tO(cl:Cf)(E:St->XK):Bool->Fe->TE | true,f=>tN cl E f | false,f=>tE cl E f
noncomputable def zm0(i j:Nat)(o1:Bool)(f1:Fe)(o2:Bool)(f2:Fe):Fs:=fun ρ S=>match f1 ρ S with
 | .ok d1 S1=>(match f2 ρ S1 with
  | .ok d2 S2=>.nx ((ρ.set i (some (o1,d1))).set j (some (o2,d2))) S2
  | .exc c S'=>.ex c ρ S'
  | .bad=>.bad)
 | .exc c S'=>.ex c ρ S'
 | .bad=>.bad
section
variable{X:Cx}{cl:Cf}{E:St->XK}{own:Bool}
def zlJ{i j:Nat}{o1 o2:Bool}{f1 f2:Fe}{De:Ends}{σ:St}{H:Hp}(q:tS cl E own (zm0 i j o1 f1 o2 f2) De σ H):zvM i j (znM (tO cl E o1 f1) (znM (tO cl E o2 f2) zsv)) De σ H:=by
 obtain ⟨B,w,ρ,S,rfl,R,q⟩:=q;unfold zm0 at q
 cases o1 with
 | false =>
  refine ⟨B,w,ρ,S,rfl,R,?_⟩
  cases h1:f1 ρ S with
  | bad=>rwa [h1] at q
  | exc c S1=>rw [h1] at q;exact fun w' R' F'=>q σ w' R' F'
  | ok d1 S1 =>
   rw [h1] at q;dsimp only at q;intro v w1 R1 F1 sh1
   cases o2 with
   | false =>
    refine ⟨B,w1,ρ,S1,rfl,R1,?_⟩
    cases h2:f2 ρ S1 with
    | bad=>rwa [h2] at q
    | exc c S2=>rw [h2] at q;exact fun w' R' F'=>q σ w' R' (F1.trans F')
    | ok d2 S2 =>
     rw [h2] at q;intro v2 w2 R2 F2 sh2;exact ⟨v,v2,rfl,q _ w2 ((R2.put (sh1.up F2)).put sh2) (F1.trans F2)⟩
   | true =>
    refine ⟨B,w1,ρ,S1,rfl,R1,?_⟩
    cases h2:f2 ρ S1 with
    | bad=>rwa [h2] at q
    | exc c S2=>rw [h2] at q;exact fun w' R' F'=>q σ w' R' (F1.trans F')
    | ok d2 S2 =>
     rw [h2] at q;intro p2 u2 w2 R2 F2 hp2 t2;exact ⟨v,.ref p2,rfl,q _ (w2.addAs p2 u2 (.slot j)) ((R2.put (sh1.up F2)).own hp2 t2) (F1.trans (F2.trans (zba hp2)))⟩
 | true =>
  refine ⟨B,w,ρ,S,rfl,R,?_⟩
  cases h1:f1 ρ S with
  | bad=>rwa [h1] at q
  | exc c S1=>rw [h1] at q;exact fun w' R' F'=>q σ w' R' F'
  | ok d1 S1 =>
   rw [h1] at q;dsimp only at q;intro p u w1 R1 F1 hp t1;have Rh:=R1.hold (o:=u) hp;have fa:=zba (w:=w1) (p:=p) (o:=u) (r:=.far) hp
   have hB:B.Fr p=none:=by
    cases z:B.Fr p with
    | none=>rfl
    | some x=>have:=(R1.wd.fr p x z).1;rw [hp] at this;cases this
   cases o2 with
   | false =>
    refine ⟨B.hold p u,w1.addAs p u .far,ρ,S1,rfl,Rh,?_⟩
    cases h2:f2 ρ S1 with
    | bad=>rwa [h2] at q
    | exc c S2=>rw [h2] at q;exact fun w' R' F'=>q σ w' (R'.unhold hB) (F1.trans (fa.trans F'))
    | ok d2 S2 =>
     rw [h2] at q;intro v2 w2 R2 F2 sh2;have hpp:=R2.wd.fr p u (show (if p=p then some u else B.Fr p)=some u from if_pos rfl)
     have hfar:w2.ow p≠none:=by rw [hpp.2,show (B.hold p u).fw p=some Root.far from if_pos rfl];exact yaC _
     have fc:=zet (w:=w2) (p:=p) (r:=.slot i) hfar;exact ⟨.ref p,v2,rfl,q _ (w2.claim p (.slot i)) ((R2.claim hB (t1.up (fa.trans F2))).put (sh2.up fc)) (F1.trans (fa.trans (F2.trans fc)))⟩
   | true =>
    refine ⟨B.hold p u,w1.addAs p u .far,ρ,S1,rfl,Rh,?_⟩
    cases h2:f2 ρ S1 with
    | bad=>rwa [h2] at q
    | exc c S2=>rw [h2] at q;exact fun w' R' F'=>q σ w' (R'.unhold hB) (F1.trans (fa.trans F'))
    | ok d2 S2 =>
     rw [h2] at q;intro p2 u2 w2 R2 F2 hp2 t2;have hpp:=R2.wd.fr p u (show (if p=p then some u else B.Fr p)=some u from if_pos rfl)
     have hfar:w2.ow p≠none:=by rw [hpp.2,show (B.hold p u).fw p=some Root.far from if_pos rfl];exact yaC _
     have fc:=zet (w:=w2) (p:=p) (r:=.slot i) hfar;exact ⟨.ref p,.ref p2,rfl,q _ ((w2.claim p (.slot i)).addAs p2 u2 (.slot j)) ((R2.claim hB (t1.up (fa.trans F2))).own (w:=w2.claim p (.slot i)) hp2 (t2.up fc)) (F1.trans (fa.trans (F2.trans (fc.trans (zba (w:=w2.claim p (.slot i)) hp2)))))⟩
end
noncomputable def zer:Expr->Bool | .ListComp _ _ _ _=>true | .SetComp _ _ _ _=>true | .DictComp _ _ _ _ _=>true | _=>false
def zdZ{e:Expr}{t:Option Expr}{l:Nat}{env:PySem.Env}(h:zer e=false):swapsWith e t l env=pure false:=by
 cases e<;>first | rfl | cases h
structure Gd(cl:Cf)(G:Genv)(k:Nat)(X:Cx)(nm:Names)(N:List Str)(E:St->XK)(full:Bool):Prop where
 gx:Gx cl G k X nm N E
 fn:∀x,X.fn x=true
 kind:X.env.scope.kind=.function
 sc:X.env.scope.names=nm
 own:full=true->PassesOwn (model X.prog X.w) X.A X.env X.xe
 raises:full=true->zpy X E
 stk:X.stack=X.env::X.outer
 frm:X.env.frame=some X.env.locals
noncomputable def zb4:Nat->Names->List Str->Expr->List Nat
 | 0,_,_,_=>[]
 | n+1,nm,N,e =>
  let rc:=zb4 n nm N
  let op:=fun (e:Expr)=>match e with | .Name _ _=>[] | e=>rc e
  match e with
  | .Name x _=>(zaQ nm N x).toList
  | .Tuple es _ _=>es.flatMap rc
  | .List es _=>es.flatMap rc
  | .BinOp a _ b _=>op a++op b
  | .UnaryOp _ a _=>rc a
  | .BoolOp _ es _=>es.flatMap rc
  | .Compare a _ bs _=>op a++bs.flatMap op
  | .IfExp c a b _=>rc c++rc a++rc b
  | .Subscript a (.Slice lo hi _ _) _=>op a++lo.toList.flatMap op++hi.toList.flatMap op
  | .Subscript a i _=>op a++op i
  | .Call (.Name f _) args [] _=>if (zkX f).isSome||decide (f = "isinstance") then args.flatMap op else args.flatMap rc
  | .Call (.Attribute o _ _) args [] _=>op o++args.flatMap rc
  | .Dict _ _ _=>[]
  | .Attribute o _ _=>op o
  | .ListComp _ [g] scope _=>rc g.iter++(zaW scope.names N).map (·.2)
  | _=>[]
noncomputable def zg0(t:Tg)(f:Fe):Fs:=fun ρ S=>match f ρ S with
 | .ok d S'=>(match t.put ρ d with | some ρ'=>.nx ρ' S' | none=>.bad)
 | .exc c S'=>.ex c ρ S'
 | .bad=>.bad
noncomputable def zlK(nm:Names)(x y:Str)(px py:Pos)(a b:Expr):Bool :=
 decide (nm.lookup x=some .local)&&decide (nm.lookup y=some .local)&&decide (px.line=py.line)&&!decide (x=y)&&zbd a&&zbd b&&!([a,b].all (foldedForSure 8))&&!([a,b].all (constantsAlone 8))
noncomputable def zmA(nm:Names)(x y:Str)(a b:Expr):Bool:=zbd a&&zbd b&&(!decide (nm.lookup x=some .local)||!decide (nm.lookup y=some .local))
noncomputable def znq:Expr->Bool | .Constant _ _ _=>true | _=>false
noncomputable def zyy:Expr->Bool | .Name _ _=>true | .Constant _ _ _=>true | .Subscript _ _ _=>true | .BinOp _ _ _ _=>true | _=>false
noncomputable def zpi:Expr->Option (List (Option Expr)×List Expr×Pos) | .Dict ks vs p=>some (ks,vs,p) | _=>none
def zms{e:Expr}{x:List (Option Expr)×List Expr×Pos}(h:zpi e=some x):e=.Dict x.1 x.2.1 x.2.2:=by cases e<;>first | (cases h;done) | (cases h;rfl)
noncomputable def zeq(e:Expr):Bool:=match zpi e with | some x=>x.1.isEmpty&&x.2.1.isEmpty | none=>false
def zfI{e:Expr}(h:zeq e=true):∃p,e=.Dict [] [] p:=by
 unfold zeq at h
 cases h1:zpi e with
 | none=>rw [h1] at h;cases h
 | some x =>
  rw [h1] at h;dsimp only at h;rw [yab,ycm,ycm] at h;exact ⟨_,by rw [zms h1,h.1,h.2]⟩
noncomputable def zvX(nm:Names)(x y:Str)(a b:Expr):Bool:=zmA nm x y a b&&zeq a&&zeq b
noncomputable def zre{α:Type}:List α->Option α | [a]=>some a | _=>none
def zjX{α:Type}{l:List α}{a:α}(h:zre l=some a):l=[a]:=by
 cases l with
 | nil=>cases h
 | cons b t=>cases t with
  | nil=>cases h;rfl
  | cons _ _=>cases h
noncomputable def zfv:Expr->Option (Str×Pos) | .Name x p=>some (x,p) | _=>none
def zcy{e:Expr}{x:Str×Pos}(h:zfv e=some x):e=.Name x.1 x.2:=by cases e<;>first | (cases h;done) | (cases h;rfl)
noncomputable def zsf:Expr->Option (Expr×List Expr×List Keyword×Pos) | .Call f a k p=>some (f,a,k,p) | _=>none
def zmE{e:Expr}{x:Expr×List Expr×List Keyword×Pos}(h:zsf e=some x):e=.Call x.1 x.2.1 x.2.2.1 x.2.2.2:=by cases e<;>first | (cases h;done) | (cases h;rfl)
noncomputable def zpI:Expr->Option (Expr×Str×Pos) | .Attribute o m p=>some (o,m,p) | _=>none
def zhs{e:Expr}{x:Expr×Str×Pos}(h:zpI e=some x):e=.Attribute x.1 x.2.1 x.2.2:=by cases e<;>first | (cases h;done) | (cases h;rfl)
noncomputable def zyM:Stmt->Option (List Expr×Expr×Pos) | .Assign t e p=>some (t,e,p) | _=>none
def zuR{e:Stmt}{x:List Expr×Expr×Pos}(h:zyM e=some x):e=.Assign x.1 x.2.1 x.2.2:=by cases e<;>first | (cases h;done) | (cases h;rfl)
noncomputable def zpz:Expr->Option (List Expr×Nat×Pos) | .Tuple es k p=>some (es,k,p) | _=>none
def zi7{e:Expr}{x:List Expr×Nat×Pos}(h:zpz e=some x):e=.Tuple x.1 x.2.1 x.2.2:=by cases e<;>first | (cases h;done) | (cases h;rfl)
noncomputable def zvR:Expr->Option (Expr×Expr×Pos) | .Subscript a i p=>some (a,i,p) | _=>none
def znN{e:Expr}{x:Expr×Expr×Pos}(h:zvR e=some x):e=.Subscript x.1 x.2.1 x.2.2:=by cases e<;>first | (cases h;done) | (cases h;rfl)
noncomputable def lcE:Expr->Option (Expr×List Comprehension×Scope×Pos) | .ListComp elt gs scope p=>some (elt,gs,scope,p) | _=>none
def zry{e:Expr}{x:Expr×List Comprehension×Scope×Pos}(h:lcE e=some x):e=.ListComp x.1 x.2.1 x.2.2.1 x.2.2.2:=by cases e<;>first | (cases h;done) | (cases h;rfl)
noncomputable def zta{α:Type}:List α->Option (α×α) | [a,b]=>some (a,b) | _=>none
def zmO{α:Type}{l:List α}{a:α×α}(h:zta l=some a):l=[a.1,a.2]:=by
 cases l with
 | nil=>cases h
 | cons b t=>cases t with
  | nil=>cases h
  | cons c t=>cases t with
   | nil=>cases h;rfl
   | cons _ _=>cases h
noncomputable def zuS(G:Genv)(rc:Rec)(nm:Names)(N:List Str)(x:Str)(e:Expr):Option Fs :=
 (tgI true nm N N.length x).bind fun i=>match lcE e with
  | some c=>(zre c.2.1).bind fun g=>(ziP G rc nm N c.1 g c.2.2.1).bind fun f=>some (zdU i true f)
  | none=>if zer e then none else (rc nm N e).bind fun p=>some (zdU i p.1 p.2)
noncomputable def zuQ(rc:Rec)(nm:Names)(N:List Str)(t:List Expr×Nat×Pos)(e:Expr):Option Fs:=match zpz e with
 | some v=>(zta t.1).bind fun xy=>(zfv xy.1).bind fun x=>(zfv xy.2).bind fun y=>(zta v.1).bind fun ab =>
  if zlK nm x.1 y.1 x.2 y.2 ab.1 ab.2 then (tgI true nm N N.length x.1).bind fun i=>(tgI true nm N N.length y.1).bind fun j=>if i=j then none else (rc nm N ab.1).bind fun p=>(rc nm N ab.2).bind fun q=>some (zm0 i j p.1 p.2 q.1 q.2)
  else if zvX nm x.1 y.1 ab.1 ab.2 then (tgI true nm N N.length x.1).bind fun i=>(tgI true nm N N.length y.1).bind fun j=>some (zm0 i j true zfH true zfH)
  else if (znq ab.1&&znq ab.2)||zmA nm x.1 y.1 ab.1 ab.2 then (tgG true nm N N.length (.Tuple t.1 t.2.1 t.2.2)).bind fun t=>(shE rc nm N e).bind fun f=>some (zg0 t f) else none
 | none=>(tgG true nm N N.length (.Tuple t.1 t.2.1 t.2.2)).bind fun t=>(shE rc nm N e).bind fun f=>some (zg0 t f)
noncomputable def zuV(G:Genv)(rc:Rec)(nm:Names)(N:List Str)(o:Expr)(f:Str)(e:Expr):Option Fs :=
 (nmF o).bind fun x=>if zeq e then (if G.ob.df f&&G.ob.fk G.ob.cur f then (zaQ nm N x.1).map fun i=>zog G.ob.cur f i else none) else (if G.ob.df f||!G.ob.fk G.ob.cur f then none else (shE rc nm N o).bind fun fo=>(shE rc nm N e).bind fun fe=>some (zjy G.ob.cur f fo fe))
noncomputable def zuT(G:Genv)(rc:Rec)(nm:Names)(N:List Str)(o:Expr)(f:Str)(ix e:Expr):Option Fs :=
 if zfy o&&G.ob.df f&&!zer e&&G.ob.fk G.ob.cur f then (nmF ix).bind fun x=>(zaQ nm N x.1).bind fun i=>(shE rc nm N o).bind fun fo=>(shE rc nm N e).bind fun fe=>some (zjx G.ob.cur f fo i fe) else none
noncomputable def zuU(rc:Rec)(nm:Names)(N:List Str)(x:Str)(ix e:Expr):Option Fs :=
 if zyy ix&&!zer e then (zaQ nm N x).bind fun i=>(opE rc nm N ix).bind fun fi=>(shE rc nm N e).bind fun f=>some (zjv i fi f) else none
noncomputable def zuW(rc:Rec)(nm:Names)(N:List Str)(x:Str)(ix e:Expr):Option Fs :=
 if !zer e then (zaQ nm N x).bind fun i=>(shE rc nm N ix).bind fun k=>(shE rc nm N e).bind fun f=>some (zfg i k f) else none
noncomputable def zsl(G:Genv)(rc:Rec)(nm:Names)(N:List Str)(q:Expr×Expr×Pos)(e:Expr):Option Fs:=match zpI q.1 with
 | some a=>zuT G rc nm N a.1 a.2.1 q.2.1 e
 | none=>(zfv q.1).bind fun x=>if G.ds x.1 then zuW rc nm N x.1 q.2.1 e else zuU rc nm N x.1 q.2.1 e
noncomputable def zsS(G:Genv)(rc:Rec)(nm:Names)(N:List Str)(tg e:Expr):Option Fs:=match zfv tg with
 | some x=>zuS G rc nm N x.1 e
 | none=>match zpz tg with
  | some t=>zuQ rc nm N t e
  | none=>match zpI tg with
   | some a=>zuV G rc nm N a.1 a.2.1 e
   | none=>(zvR tg).bind fun q=>zsl G rc nm N q e
noncomputable def zrO:Expr->Bool | .Subscript _ _ _=>true | _=>false
structure Mc where
 x:Str
 px:Pos
 m:Str
 ap:Pos
 a:Expr
 cp:Pos
noncomputable def zlW(e:Expr):Option Mc:=(zsf e).bind fun c=>if c.2.2.1.isEmpty then (zpI c.1).bind fun t=>(zfv t.1).bind fun x=>(zre c.2.1).bind fun a=>some ⟨x.1,x.2,t.2.1,t.2.2,a,c.2.2.2⟩ else none
noncomputable def zpb(G:Genv)(rc:Rec)(nm:Names)(N:List Str)(e:Expr):Option Fs:=match zlW e with
 | some c=>if decide (c.m = "append")&&(c.ap.endLine == c.cp.line) then (zaQ nm N c.x).bind fun i=>(shE rc nm N c.a).bind fun f=>some (zll i f)
  else if decide (c.m = "extend")&&(c.ap.endLine == c.cp.line) then (zaQ nm N c.x).bind fun i=>(opE rc nm N c.a).bind fun f=>some (if zrO c.a then zgZ i f else zsx i f) else if zer e then none else (shE rc nm N e).map zqD
 | none=>if zer e then none else (shE rc nm N e).map zqD
noncomputable def ztG(rc:Rec)(nm:Names)(N:List Str)(own:Bool)(e:Expr):Option Fs:=match own with
 | true=>(match e with
  | .Name x _=>(zaQ nm N x).map zjw
  | e=>(rc nm N e).bind fun p=>if p.1 then some (zca p.2) else none)
 | false=>(shE rc nm N e).map zca
noncomputable def stG(G:Genv)(rc:Rec)(rs:Bool->List Stmt->Option Fs)(nm:Names)(N:List Str)(own full:Bool)(st:Stmt):Option Fs:=match st with
 | .Pass _=>some sNx
 | .Break _=>some sBk
 | .Assign ts e _=>(zre ts).bind fun tg=>zsS G rc nm N tg e
 | .Expr e _=>zpb G rc nm N e
 | .AugAssign tg op e _=>(zfv tg).bind fun x=>(zsQ op).bind fun gg=>(tgI true nm N N.length x.1).bind fun i=>(shE rc nm N e).bind fun f=>some (zqF i gg f)
 | .Return o _=>(match o with | some e=>ztG rc nm N own e | none=>if own then none else some zlk)
 | .If c a b _=>if zbr c then (shE rc nm N c).bind fun f=>(rs full a).bind fun g=>(rs full b).bind fun h=>some (sIf f g h) else none
 | .For tg it body el _=>if full&&el.isEmpty then (ziH G rc nm N tg it).bind fun i=>(tgG true nm N N.length tg).bind fun t=>(rs full body).bind fun b=>some (zgY t i b) else none
 | _=>none
end S2
namespace S2
open PySem PySem.Spec PyProof.Rows L2
noncomputable def zot(n:Nat)(own:Bool)(nm:Names)(N:List Str):Stmt->List Nat
 | .Assign [_] e _=>zb4 n nm N e
 | .Expr (.Call (.Attribute _ _ _) args [] _) _=>args.flatMap (zb4 n nm N)
 | .Expr e _=>zb4 n nm N e
 | .Return (some (.Name x p)) _=>if own then [] else zb4 n nm N (.Name x p)
 | .Return (some e) _=>zb4 n nm N e
 | .If c _ _ _=>zb4 n nm N c
 | .For _ it _ _ _=>zb4 n nm N it
 | .While c _ _ _=>zb4 n nm N c
 | _=>[]
noncomputable def blk(ds:Stmt->Option Fs):List Stmt->Option Fs
 | []=>some sNx
 | s::r=>(ds s).bind fun f=>(blk ds r).bind fun g=>some (zaz f g)
noncomputable def zmu(G:Genv)(own:Bool):Nat->Bool->Names->List Str->Stmt->Option Fs
 | 0,_,_,_,_=>none
 | n+1,full,nm,N,st=>(stG G (zuG G n) (fun fl b=>blk (zmu G own n fl nm N) b) nm N own full st).map (sFz (zot n own nm N st))
section
variable{cl:Cf}{G:Genv}{k:Nat}{rc:Rec}{X:Cx}{nm:Names}{N:List Str}{E:St->XK}{own full:Bool}
def Gd.sto(g:Gd cl G k X nm N E full):Sto' X nm true:=⟨fun _ x _=>g.fn x⟩
def zil{elt:Expr}{gs:List Comprehension}{scope:Scope}{p px:Pos}{x:Str}{l:Nat}{env:PySem.Env}:∃b,swapsWith (.ListComp elt gs scope p) (some (.Name x px)) l env=pure b:=⟨_,rfl⟩
def zk2{n:Nat}{t:Tg}{f:Fe}{De:Ends}{σ:St}{H:Hp}(q:tS cl E own (zg0 t f) De σ H):zpB (tE cl E f) (tG cl n t) De σ H:=by
 obtain ⟨B,w,ρ,S,rfl,R,q⟩:=q;refine ⟨B,w,ρ,S,rfl,R,?_⟩;unfold zg0 at q
 cases hf:f ρ S with
 | bad=>rwa [hf] at q
 | exc c S1=>rw [hf] at q;exact fun w' R' F'=>q σ w' R' F'
 | ok d S1 =>
  rw [hf] at q;intro v w' R' F' h';dsimp only at q
  cases hp:t.put ρ d with
  | none=>rw [hp] at q;exact q.elim
  | some ρ'=>rw [hp] at q;exact ⟨B,w',ρ,S1,d,ρ',rfl,R',h',hp,fun σ' _ _ R2=>q σ' w' R2 F'⟩
def zq7{x y:Str}{px py pt pt2:Pos}{kt k2:Nat}{a b:Expr}(hk:X.env.scope.kind=.function)(hs:X.env.scope.names=nm)(h:zlK nm x y px py a b=true) :
  swappedStores [.Tuple [.Name x px,.Name y py] kt pt] (.Tuple [a,b] k2 pt2) X.env=pure (some [x,y]):=by
 unfold zlK at h;simp only [yab,yay,ybA,ybT] at h;obtain ⟨⟨⟨⟨⟨⟨⟨h1,h2⟩,h3⟩,h4⟩,h5⟩,h6⟩,h7⟩,h8⟩:=h
 have hb:X.env.blockKind=.function:=by unfold Env.blockKind;rw [hk];rfl
 have k1:X.env.kindOf x=some .local:=by unfold Env.kindOf;rw [hs];exact h1
 have k2':X.env.kindOf y=some .local:=by unfold Env.kindOf;rw [hs];exact h2
 have st:([a,b].any fun | .Starred ..=>true | _=>false)=false:=by
  cases a<;>first | (cases h5;done) | (cases b<;>first | rfl | cases h6)
 have ed:[x,y].eraseDups.length=2:=by
  have:(y == x)=false:=by rw [yaZ];exact fun z=>h4 z.symm
  simp [List.eraseDups_cons,this]
 unfold swappedStores;simp only [hb,st];simp [k1,k2',h3,h7,h8,ed,Expr.pos];intro z;exfalso
 rcases z with z | z
 ·cases a<;>first | (cases h5;done) | cases z
 ·cases b<;>first | (cases h6;done) | cases z
def znA{x y:Str}{px py pt pt2:Pos}{kt k2:Nat}{a b:Expr}(hs:X.env.scope.names=nm)(h:zmA nm x y a b=true) :
  swappedStores [.Tuple [.Name x px,.Name y py] kt pt] (.Tuple [a,b] k2 pt2) X.env=pure none:=by
 unfold zmA at h;simp only [yab,ycw,ybA,ybT] at h;obtain ⟨⟨h5,h6⟩,h⟩:=h
 have st:([a,b].any fun | .Starred ..=>true | _=>false)=false:=by
  cases a<;>first | (cases h5;done) | (cases b<;>first | rfl | cases h6)
 unfold swappedStores;simp only [st]
 by_cases hb:X.env.blockKind=.function
 ·rcases h with h | h
  ·have k1:¬ X.env.kindOf x=some .local:=by unfold Env.kindOf;rw [hs];exact h
   by_cases c:X.env.kindOf y=some .local/\py.line=px.line<;>simp [k1,c,hb,Expr.pos,ybc]
  ·have k1:¬ X.env.kindOf y=some .local:=by unfold Env.kindOf;rw [hs];exact h
   by_cases c:X.env.kindOf x=some .local<;>simp [k1,c,hb,Expr.pos,ybc]
 ·simp [hb]
def zmx(hs:zaI cl G k rc)(g:Gd cl G k X nm N E full){elt:Expr}{gg:Comprehension}{scope:Scope}{x:Str}{i:Nat}{f:Fe}{p px pos:Pos}(hi:tgI true nm N N.length x=some i)(h:ziP G rc nm N elt gg scope=some f) :
  PS X (.Assign [.Name x px] (.ListComp elt [gg] scope p) pos) (tS cl E own (zdU i true f)):=by
 obtain ⟨a1,a2,a3,a4,a5⟩:=zc5 g.gx g.sto hi;obtain ⟨b,hb⟩:=zil (elt:=elt) (gs:=[gg]) (scope:=scope) (p:=p) (px:=px) (x:=x) (l:=pos.line) (env:=X.env)
 cases b with
 | false=>exact zjj a2 a3 a4 (zkK hs g.gx h) hb a5
 | true =>
  obtain ⟨it,t,c,el,rfl,eg,S,i1,i2,i3,i4,i5⟩:=ze4 hs g.gx h;rw [eg] at hb ⊢;refine PS.imp (zlv g.gx.calm S a2 a3 a4 i1 i3 i4 i5 hb a5 (zfq i2)) ?_;intro De σ H q;exact zny (zsk q)
def zr5{x y:Str}{px py pt pt2 p1 p2:Pos}{kt k2:Nat}{a b:Const}{ka kb:Nat}{env:PySem.Env}:swappedStores [.Tuple [.Name x px,.Name y py] kt pt] (.Tuple [.Constant a ka p1,.Constant b kb p2] k2 pt2) env=pure none:=by
 have hf:∀(c:Const) (k:Nat) (p:Pos),foldedForSure 8 (.Constant c k p)=true:=fun _ _ _=>rfl
 unfold swappedStores;simp only [ybI,List.all_nil,hf,Bool.and_self,yb4]
 split<;>first | rfl | (split<;>first | rfl | (split<;>rfl))
def zmS{a i e:Expr}{p:Pos}{l:Nat}{env:PySem.Env}:swapsWithSole [.Subscript a i p] e l env=pure false:=by cases e<;>rfl
def zmV{a i e:Expr}{p:Pos}{env:PySem.Env}:swappedStores [.Subscript a i p] e env=pure none:=by cases e<;>rfl
def zmR{es:List Expr}{kk l:Nat}{p:Pos}{e:Expr}{env:PySem.Env}:swapsWithSole [.Tuple es kk p] e l env=pure false:=by cases e<;>rfl
def zp3{es:List Expr}{kk:Nat}{p:Pos}{e:Expr}{env:PySem.Env}(h:zpz e=none):swappedStores [.Tuple es kk p] e env=pure none:=by cases e<;>first | rfl | cases h
def zmT{o e:Expr}{f:Str}{p:Pos}{l:Nat}{env:PySem.Env}:swapsWith e (some (.Attribute o f p)) l env=pure false:=by cases e<;>rfl
def zpr(hs:zaI cl G k rc)(g:Gd cl G k X nm N E full){e:Expr}{x:Str}{px:Pos}{f:Fs}{pos:Pos}(h:zuS G rc nm N x e=some f):PS X (.Assign [.Name x px] e pos) (tS cl E own f):=by
 unfold zuS at h;obtain ⟨i,h1,h⟩:=zaa h
 cases hl:lcE e with
 | some c =>
  rw [hl] at h;obtain ⟨gg,h2,h⟩:=zaa h;obtain ⟨fe,h3,h⟩:=zaa h;cases h;rw [zry hl,zjX h2];exact zmx hs g h1 h3
 | none =>
  rw [hl] at h;dsimp only at h;split at h
  ·cases h
  ·rename_i hc;obtain ⟨⟨o,fe⟩,h2,h⟩:=zaa h;cases h;obtain ⟨a1,a2,a3,a4,a5⟩:=zc5 g.gx g.sto h1;obtain ⟨b1,b2,_,_⟩:=hs X nm N E g.gx _ o fe h2;have sw:=zdZ (t:=some (.Name x px)) (l:=pos.line) (env:=X.env) (by simpa using hc)
   cases o with
   | false=>exact zqd a2 a3 a4 b2 sw a5
   | true=>exact zjj a2 a3 a4 (b1 rfl) sw a5
def ztQ{i j:Nat}{x y:Str}{px py pt pt2 p1 p2 pos:Pos}{kt k2:Nat}(hc:X.calm=true)(hN:X.N.Nodup)(hi:X.N[i]?=some x)(hj:X.N[j]?=some y)(hx:L2.Loc X.env.scope x)(hy:L2.Loc X.env.scope y)(hfx:X.fn x=true\/X.env.scope.names.lookup x=some .local)(hfy:X.fn y=true\/X.env.scope.names.lookup y=some .local)(hw:swappedStores [.Tuple [.Name x px,.Name y py] kt pt] (.Tuple [.Dict [] [] p1,.Dict [] [] p2] k2 pt2) X.env=pure none) :
  PS X (.Assign [.Tuple [.Name x px,.Name y py] kt pt] (.Tuple [.Dict [] [] p1,.Dict [] [] p2] k2 pt2) pos) (tS cl E own (zm0 i j true zfH true zfH)):=by
 refine PS.imp (zhI (znb (za9 zfo (za9 zfo zch (zaB rfl)) (zaB rfl))) (zm9 hc (zfm (zfn hN hi hx hfx) (zfm (zfn hN hj hy hfy) zjO))) zmR hw rfl) ?_;rintro De σ H ⟨B,w,ρ,S,rfl,R,q⟩;intro q1 h1 q2 h2;refine ⟨by show (2:Nat)<=sizeLine;decide,fun q3 h3=>?_⟩;have R1:=R.own (i:=i) (d:=zaH []) h1 (.dicN (ps:=[]));have F1:=zba (w:=w) (p:=q1) (o:=.dK []) (r:=.slot i) h1;have R2:=R1.own (i:=j) (d:=zaH []) (p:=q2) (o:=.dK []) h2 (.dicN (ps:=[]));have F2:=zba (w:=w.addAs q1 (.dK []) (.slot i)) (p:=q2) (o:=.dK []) (r:=.slot j) h2;have gr:=zan (w:=(w.addAs q1 (.dK []) (.slot i)).addAs q2 (.dK []) (.slot j)) (p:=q3) h3 (.tup [V.ref q1,V.ref q2]);exact ⟨q3,[.ref q1,.ref q2],rfl,.inl (.inl zam),rfl,.ref q1,[.ref q2],rfl,.ref q2,[],rfl,rfl,q _ _ (R2.grow gr) ((F1.trans F2).trans gr.fut)⟩
def zpq(hs:zaI cl G k rc)(g:Gd cl G k X nm N E full){e:Expr}{t:List Expr×Nat×Pos}{f:Fs}{pos:Pos}(h:zuQ rc nm N t e=some f):PS X (.Assign [.Tuple t.1 t.2.1 t.2.2] e pos) (tS cl E own f):=by
 have tupCase:swappedStores [.Tuple t.1 t.2.1 t.2.2] e X.env=pure none->((tgG true nm N N.length (.Tuple t.1 t.2.1 t.2.2)).bind fun t=>(shE rc nm N e).bind fun f=>some (zg0 t f))=some f->PS X (.Assign [.Tuple t.1 t.2.1 t.2.2] e pos) (tS cl E own f):=by
  intro sw2 h;obtain ⟨t',h1,h⟩:=zaa h;obtain ⟨fe,h2,h⟩:=zaa h;cases h;exact PS.imp (zhI (zaq hs g.gx h2).1 (znH g.gx g.sto h1) zmR sw2 rfl) fun _ _ _ q=>zk2 q
 unfold zuQ at h
 cases hv:zpz e with
 | none =>
  rw [hv] at h;exact tupCase (zp3 hv) h
 | some v =>
  rw [hv] at h;obtain ⟨xy,h1,h⟩:=zaa h;obtain ⟨x,h2,h⟩:=zaa h;obtain ⟨y,h3,h⟩:=zaa h;obtain ⟨ab,h4,h⟩:=zaa h;have ev:=zi7 hv
  have et:t.1=[.Name x.1 x.2,.Name y.1 y.2]:=by rw [zmO h1,zcy h2,zcy h3]
  rw [zmO h4] at ev;obtain ⟨a,b⟩:=ab;dsimp only at h ev;split at h
  ·rename_i hp;obtain ⟨i,h1,h⟩:=zaa h;obtain ⟨j,h2,h⟩:=zaa h;split at h
   ·cases h
   ·rename_i hij;obtain ⟨⟨o1,f1⟩,h3,h⟩:=zaa h;obtain ⟨⟨o2,f2⟩,h4,h⟩:=zaa h;cases h;obtain ⟨_,a2,a3,_,_⟩:=zc5 g.gx g.sto h1;obtain ⟨_,_,b3,_,_⟩:=zc5 g.gx g.sto h2;obtain ⟨p1,p2,_,p4⟩:=hs X nm N E g.gx a o1 f1 h3;obtain ⟨q1,q2,_,q4⟩:=hs X nm N E g.gx b o2 f2 h4
    have hx:X.env.scope.names.lookup x.1=some .local/\X.env.scope.names.lookup y.1=some .local:=by
     unfold zlK at hp;simp only [yab,yay] at hp;rw [g.sc];exact ⟨hp.1.1.1.1.1.1.1,hp.1.1.1.1.1.1.2⟩
    have P1:PE X a (tO cl E o1 f1):=by cases o1 with | false=>exact p2 | true=>exact p1 rfl
    have P2:PE X b (tO cl E o2 f2):=by cases o2 with | false=>exact q2 | true=>exact q1 rfl
    rw [et,ev];exact PS.imp (zqT g.gx.calm a2 a3 b3 hij hx.1 hx.2 (za9 P1 (za9 P2 zch (zaB (zab q4))) (zaB (zab p4))) (zq7 g.kind g.sc hp) rfl) fun _ _ _ q=>zlJ q
  split at h
  ·rename_i hd;unfold zvX at hd;rw [yab,yab] at hd;obtain ⟨i,h1,h⟩:=zaa h;obtain ⟨j,h2,h⟩:=zaa h;cases h;obtain ⟨_,a2,a3,a4,a5⟩:=zc5 g.gx g.sto h1;obtain ⟨_,_,b3,b4,b5⟩:=zc5 g.gx g.sto h2;obtain ⟨p1,rfl⟩:=zfI hd.1.2;obtain ⟨p2,rfl⟩:=zfI hd.2;rw [et,ev];exact ztQ g.gx.calm a2 a3 b3 a4 b4 a5 b5 (znA g.sc hd.1.1)
  ·split at h
   ·rename_i hc;refine tupCase ?_ h;rw [et,ev];rw [ycw] at hc
    rcases hc with hc | hc
    rotate_left
    ·exact znA g.sc hc
    rw [yab] at hc
    cases a<;>first | (cases hc.1;done) | (cases b<;>first | (cases hc.2;done) | exact zr5)
   ·cases h
def zpu(hs:zaI cl G k rc)(g:Gd cl G k X nm N E full){o e:Expr}{fl:Str}{ap:Pos}{f:Fs}{pos:Pos}(h:zuV G rc nm N o fl e=some f):PS X (.Assign [.Attribute o fl ap] e pos) (tS cl E own f):=by
 unfold zuV at h;obtain ⟨x,h1,hz⟩:=zaa h;have e1:=zgl h1;clear h h1;subst e1;split at hz
 ·rename_i hd;split at hz
  ·rename_i hf;rw [yab] at hf;obtain ⟨i,h1,hz⟩:=map_some hz;subst hz;obtain ⟨s1,s2,s3,s4⟩:=g.gx.slot h1;obtain ⟨p,rfl⟩:=zfI hd;exact znX s1 s2 s3 s4 g.gx.same (g.gx.gok.fk _ _ hf.2) zmT
  ·cases hz
 ·split at hz
  ·cases hz
  ·rename_i hf;rw [Bool.not_eq_true,Bool.or_eq_false_iff,Bool.not_eq_false'] at hf;obtain ⟨fo,h2,hz⟩:=zaa hz;obtain ⟨fe,h3,hz⟩:=zaa hz;cases hz;exact znW g.gx.same (g.gx.gok.fk _ _ hf.2) (zaq hs g.gx h2).1 (zaq hs g.gx h3).1 zmT
def zps(hs:zaI cl G k rc)(g:Gd cl G k X nm N E full){o ix e:Expr}{fl:Str}{ap p3:Pos}{f:Fs}{pos:Pos}(h:zuT G rc nm N o fl ix e=some f):PS X (.Assign [.Subscript (.Attribute o fl ap) ix p3] e pos) (tS cl E own f):=by
 unfold zuT at h;split at h
 ·rename_i hc;rw [yab,yab,yab,ybA] at hc;obtain ⟨x,h1,hz⟩:=zaa h;have e1:=zgl h1;clear h h1;subst e1;obtain ⟨i,h1,hz⟩:=zaa hz;obtain ⟨fo,h2,hz⟩:=zaa hz;obtain ⟨fe,h3,hz⟩:=zaa hz;cases hz;obtain ⟨s1,s2,s3,s4⟩:=g.gx.slot h1;refine znU s1 s2 s3 s4 g.gx.u16 g.gx.same (g.gx.gok.fk _ _ hc.2) (zaq hs g.gx h2).1 ?_ (zaq hs g.gx h3).1 zmS zmV ?_
  ·cases o<;>first | rfl | cases hc.1.1.1
  ·intro _;rfl
 ·cases h
def zpt(hs:zaI cl G k rc)(g:Gd cl G k X nm N E full){ix e:Expr}{x:Str}{px p3:Pos}{f:Fs}{pos:Pos}(h:zuU rc nm N x ix e=some f):PS X (.Assign [.Subscript (.Name x px) ix p3] e pos) (tS cl E own f):=by
 unfold zuU at h;split at h
 ·rename_i hx;rw [yab,ybA] at hx;obtain ⟨i,h1,h⟩:=zaa h;obtain ⟨fi,h2,h⟩:=zaa h;obtain ⟨fe,h3,h⟩:=zaa h;cases h;obtain ⟨s1,s2,s3,s4⟩:=g.gx.slot h1;obtain ⟨b1,_⟩:=zbG hs g.gx h2;obtain ⟨a1,_,_⟩:=zaq hs g.gx h3;refine znP s1 s2 s3 s4 a1 b1 zmS zmV ?_
  cases ix<;>first | (intro _;rfl) | cases hx.1
 ·cases h
def zpv(hs:zaI cl G k rc)(g:Gd cl G k X nm N E full){ix e:Expr}{x:Str}{px p3:Pos}{f:Fs}{pos:Pos}(h:zuW rc nm N x ix e=some f):PS X (.Assign [.Subscript (.Name x px) ix p3] e pos) (tS cl E own f):=by
 unfold zuW at h;split at h
 ·rename_i hx;rw [ybA] at hx;obtain ⟨i,h1,h⟩:=zaa h;obtain ⟨fi,h2,h⟩:=zaa h;obtain ⟨fe,h3,h⟩:=zaa h;cases h;obtain ⟨s1,s2,s3,s4⟩:=g.gx.slot h1;exact znT (by have:=g.gx.units;omega) s1 s2 s3 s4 (zaq hs g.gx h2).1 (zaq hs g.gx h3).1 (zdZ hx)
 ·cases h
def zsj(hs:zaI cl G k rc)(g:Gd cl G k X nm N E full){tg e:Expr}{f:Fs}{pos:Pos}(h:zsS G rc nm N tg e=some f):PS X (.Assign [tg] e pos) (tS cl E own f):=by
 unfold zsS at h
 cases h1:zfv tg with
 | some x=>rw [h1] at h;rw [zcy h1];exact zpr hs g h
 | none =>
  rw [h1] at h
  cases h2:zpz tg with
  | some t=>rw [h2] at h;rw [zi7 h2];exact zpq hs g h
  | none =>
   rw [h2] at h
   cases h3:zpI tg with
   | some a=>rw [h3] at h;rw [zhs h3];exact zpu hs g h
   | none =>
    rw [h3] at h;obtain ⟨q,h4,h⟩:=zaa h;rw [znN h4];unfold zsl at h
    cases h5:zpI q.1 with
    | some a=>rw [h5] at h;rw [zhs h5];exact zps hs g h
    | none =>
     rw [h5] at h;obtain ⟨x,h6,h⟩:=zaa h;rw [zcy h6];split at h
     ·exact zpv hs g h
     ·exact zpt hs g h
def zlV{e:Expr}{c:Mc}(h:zlW e=some c):e=.Call (.Attribute (.Name c.x c.px) c.m c.ap) [c.a] [] c.cp:=by
 unfold zlW at h;obtain ⟨c1,h1,h⟩:=zaa h;split at h
 ·rename_i hk;obtain ⟨t,h2,h⟩:=zaa h;obtain ⟨x,h3,h⟩:=zaa h;obtain ⟨a,h4,h⟩:=zaa h;cases h;rw [zmE h1,zhs h2,zcy h3,zjX h4,ycm.mp hk]
 ·cases h
def zpa(hs:zaI cl G k rc)(g:Gd cl G k X nm N E full){e:Expr}{f:Fs}{pos:Pos}(h:zpb G rc nm N e=some f):PS X (.Expr e pos) (tS cl E own f):=by
 unfold zpb at h
 cases hc:zlW e with
 | some c =>
  obtain ⟨x,px,m,ap,a,cp⟩:=c;obtain rfl:=zlV hc;rw [hc] at h;dsimp only at h;split at h
  ·rename_i hm;rw [yab] at hm;have em:=yaj hm.1;subst em;obtain ⟨i,h1,h⟩:=zaa h;obtain ⟨fe,h2,h⟩:=zaa h;cases h;obtain ⟨s1,s2,s3,s4⟩:=g.gx.slot h1;obtain ⟨a1,_,a3⟩:=zaq hs g.gx h2;exact zqe s1 s2 s3 s4 a1 (zab a3) hm.2
  split at h
  ·rename_i hm;rw [yab] at hm;have em:=yaj hm.1;subst em;obtain ⟨i,h1,h⟩:=zaa h;obtain ⟨fe,h2,h⟩:=zaa h;cases h;obtain ⟨s1,s2,s3,s4⟩:=g.gx.slot h1;obtain ⟨a1,a3⟩:=zbG hs g.gx h2;split
   ·exact znY s1 s2 s3 s4 a1 (zab a3) hm.2
   ·exact zqa s1 s2 s3 s4 a1 (zab a3) hm.2
  split at h
  ·cases h
  ·rename_i hc;obtain ⟨fe,h2,h⟩:=map_some h;subst h;exact zmW (zaq hs g.gx h2).1 (zdZ (by simpa using hc))
 | none =>
  rw [hc] at h;dsimp only at h;split at h
  ·cases h
  ·rename_i hc;obtain ⟨fe,h2,h⟩:=map_some h;subst h;exact zmW (zaq hs g.gx h2).1 (zdZ (by simpa using hc))
def zqH(hs:zaI cl G k rc)(g:Gd cl G k X nm N E full){e:Expr}{f:Fs}{pos:Pos}(h:ztG rc nm N own e=some f):PS X (.Return (some e) pos) (tS cl E own f):=by
 unfold ztG at h;split at h
 ·split at h
  ·obtain ⟨i,h1,h⟩:=map_some h;subst h;obtain ⟨s1,s2,s3,s4⟩:=g.gx.slot h1;exact znQ s1 s2 s3 s4
  ·obtain ⟨⟨o,fe⟩,h1,h⟩:=zaa h;dsimp only at h;split at h
   ·rename_i ho;cases h;exact znR ((hs X nm N E g.gx _ o fe h1).1 ho)
   ·cases h
 ·obtain ⟨fe,h2,h⟩:=map_some h;subst h;exact zp7 (zaq hs g.gx h2).1
def zts(hs:zaI cl G k rc){rs:Bool->List Stmt->Option Fs}(hr:∀(fl:Bool) (X:Cx) (E:St->XK),Gd cl G k X nm N E fl->∀b f,rs fl b=some f->PSs X b (tS cl E own f))(g:Gd cl G k X nm N E full){st:Stmt}{f:Fs}(h:stG G rc rs nm N own full st=some f):PS X st (tS cl E own f):=by
 cases st with
 | Pass p=>cases h;exact znV
 | Break p=>cases h;exact zqb
 | Assign ts e p =>
  obtain ⟨tg,h1,h⟩:=zaa (show ((zre ts).bind fun tg=>zsS G rc nm N tg e)=some f from h);obtain rfl:=zjX h1;exact zsj hs g h
 | Expr e p=>exact zpa hs g h
 | AugAssign tg op e p =>
  obtain ⟨x,h1,hz⟩:=zaa (show ((zfv tg).bind fun x=>(zsQ op).bind fun gg=>(tgI true nm N N.length x.1).bind fun i=>(shE rc nm N e).bind fun f=>some (zqF i gg f))=some f from h);obtain ⟨gg,h2,hz⟩:=zaa hz;obtain ⟨i,h3,hz⟩:=zaa hz;obtain ⟨fe,h4,hz⟩:=zaa hz;cases hz;rw [zcy h1];obtain ⟨_,a2,a3,a4,a5⟩:=zc5 g.gx g.sto h3;exact zqc h2 a2 a3 a4 (zaq hs g.gx h4).1 a5
 | Return o p =>
  cases o with
  | some e=>exact zqH hs g h
  | none =>
   have h':(if own then none else some zlk)=some f:=h;split at h'
   ·cases h'
   ·rename_i ho;cases h'
    have:own=false:=by simpa using ho
    subst this;exact znS
 | If c a b p =>
  have h':(if zbr c then (shE rc nm N c).bind fun f=>(rs full a).bind fun g=>(rs full b).bind fun h=>some (sIf f g h) else none)=some f:=h;split at h'
  ·rename_i ht;obtain ⟨fc,h1,h⟩:=zaa h';obtain ⟨fa,h2,h⟩:=zaa h;obtain ⟨fb,h3,h⟩:=zaa h;cases h;exact ztt ((zaq hs g.gx h1).2.1 ht) (hr full X E g a fa h2) (hr full X E g b fb h3)
  ·cases h'
 | For tg it body el p =>
  have h':(if full&&el.isEmpty then (ziH G rc nm N tg it).bind fun i=>(tgG true nm N N.length tg).bind fun t=>(rs full body).bind fun b=>some (zgY t i b) else none)=some f:=h;split at h'
  ·rename_i hf;rw [yab] at hf;obtain rfl:=ycm.mp hf.2;obtain ⟨it,h1,h⟩:=zaa h';obtain ⟨t,h2,h⟩:=zaa h;obtain ⟨fb,h3,h⟩:=zaa h;cases h;obtain ⟨i1,i2⟩:=zko hs g.gx (tg:=_) h1;exact zp9 (g.own hf.1) g.gx.calm i1 (znH g.gx g.sto h2) (hr full X E g _ fb h3) (zfq i2)
  ·cases h'
 | _=>cases h
theorem zkY{ds:Stmt->Option Fs}(hd:∀st f,ds st=some f->PS X st (tS cl E own f)):∀{b:List Stmt} {f:Fs},blk ds b=some f->PSs X b (tS cl E own f)
 | [],f,h=>by cases h;exact zp8
 | s::r,f,h=>by
  unfold blk at h;obtain ⟨f1,h1,h⟩:=zaa h;obtain ⟨f2,h2,h⟩:=zaa h;cases h;exact znZ (hd s f1 h1) (zkY hd h2)
theorem zh5:∀(n:Nat) (fl:Bool) (X:Cx) (E:St->XK),Gd cl G k X nm N E fl->∀st f,zmu G own n fl nm N st=some f->PS X st (tS cl E own f)
 | 0,_,_,_,_,_,_,h=>by cases h
 | n+1,fl,X,E,g,st,f,h=>by
  unfold zmu at h;obtain ⟨f1,h1,h⟩:=map_some h;subst h;exact ztu _ (zts (znv n) (fun fl X E g b f hb=>zkY (fun st f hst=>zh5 n fl X E g st f hst) hb) g h1)
end
noncomputable def zc9(nN:Nat)(own:Bool)(fs:Fs)(ds:List D)(S:Sto):Out D:=match fs (ds.map (fun d=>some (false,d))++List.replicate (nN-ds.length) none) S with
 | .rt d S'=>.ok d S'
 | .nx _ S'=>if own then .bad else .ok .non S'
 | .ex c _ S'=>.exc c S'
 | _=>.bad
noncomputable def zaC(G:Genv)(own:Bool)(N:List Str)(st:Stmt):Option Fs:=blk (zmu G own 40 true (zac st).names N) (zbF st)
def zrV{P:Program}{wo:PySem.World}{K:PySem.W.Frag}{mg:Z6}{base:Heap}{cl:Cf}{G:Genv}{k:Nat}{x qual:Str}{st:Stmt}{f:Addr}{fd:FuncData}{N ps:List Str}{own:Bool}{fs:Fs}(F:Fun K x qual st f fd)(S:FnScope N ps (zac st))(hG:GOk cl G P wo K mg base k)
  (hk:K=cl.K) (hP:P=cl.P) (hW:wo=cl.wo) (hd:zaC G own N st=some fs):FnOk P wo K mg base (CXE P wo) (k+1) f fd ps (zin cl ps.length own (zc9 N.length own fs)):=by
 obtain ⟨oc,od,kV,doc,pm,an,cdv,ct,osl,rfl,lk,hcd⟩:=F.ex;refine zus lk hcd S (fun vs H Q E h=>h.1) fun A outer s H vs Q E hr hsp=>?_
 refine ⟨tS cl (fun _=>E) own fs,?_,?_⟩
 ·have g:Gd cl G k (zk9 (CXE P wo) P wo K mg base N qual (zac st) f cdv A outer s H E) (zac st).names N (fun _=>E) true :=
   ⟨⟨hG,hr,rfl,fun pins σ H1 s1 e s' I q=>ztP pins σ H1 s1 e s' I q,rfl,hk,hP,hW,S.nd,fun x kd h=>⟨kd,h,.inl rfl⟩,fun x h=>h⟩,fun _=>rfl,S.kind,rfl,fun _=>PassesOwn.leaving,fun _ C pins σ H1 s1 e h' vs I mk q=>zoj C pins σ H1 s1 e h' vs I mk q,rfl,rfl⟩
  exact zkY (fun st f hst=>zh5 40 true _ _ g st f hst) hd
 ·obtain ⟨hl,B,w,ds,S0,rfl,W,sh,q⟩:=hsp;have hdl:ds.length=vs.length:=sh.length.symm;refine ⟨B,w,ds.map (fun d=>some (false,d))++List.replicate (N.length-ds.length) none,S0,rfl,⟨W,?_,fun i o d hi=>?_⟩,?_⟩
  ·unfold L2.zfb;rw [yav,yav,yaf,yaf,yaV,yaV,hdl]
  ·by_cases hlt:i<ds.length
   ·rw [yaP (by rw [yaf];exact hlt),yas] at hi
    cases hdi:ds[i]? with
    | none=>rw [hdi] at hi;cases hi
    | some d' =>
     rw [hdi] at hi;cases hi;obtain ⟨v,e1,e2⟩:=sh.at hdi;refine ⟨v,?_,e2⟩;unfold L2.zfb;rw [yaP (by rw [yaf];omega),yas,e1];rfl
   ·rw [yaz (by rw [yaf];omega),ybQ] at hi
    split at hi<;>cases hi
  ·unfold zc9 at q
   cases hf:fs (ds.map (fun d=>some (false,d))++List.replicate (N.length-ds.length) none) S0 with
   | bad=>rwa [hf] at q
   | bk _ _=>rw [hf] at q;exact q.elim
   | ct _ _=>rw [hf] at q;exact q.elim
   | rt d S'=>rwa [hf] at q
   | ex c ρ' S'=>rw [hf] at q;exact fun σ' w' R' F'=>q w' R'.wd F'
   | nx ρ' S' =>
    rw [hf] at q;dsimp only at q
    cases own with
    | true=>exact q.elim
    | false=>exact fun σ' w' R' F'=>q .non w' R'.wd F' .non
end S2
namespace S2
open PySem PySem.Spec PyProof.Rows L2
structure Tab where
 con:List (Str×D)
 blt:List Str
 exc:List Str
 und:List (Str×Str)
 rz:List Str
 fk:List (Str×Str)
 df:List Str
 ds:List Str
noncomputable def zuj(rz exc:List Str)(c C:Str):Option Bool:=if rz.contains c then (if C = "ValueError" then some true else if exc.contains C then some (decide (C=c)||decide (C = "FloorError")) else none) else none
noncomputable def zvL(l:List (Str×Str))(c C:Str):Bool:=l.contains (c,C)
structure Fn3 where
 cur:Str
 fs:List (Str×FnI)
 ms:List (Str×Str×FnI)
 ks:List (Str×List D×FnI)
noncomputable def Gn(T:Tab)(F:Fn3):Genv:=⟨fun x=>T.con.lookup x,fun x=>F.fs.lookup x,fun x=>T.blt.contains x,fun x=>T.exc.contains x,zvL T.und,zuj T.rz T.exc,⟨F.cur,zvL T.fk,fun f=>T.df.contains f,fun m=>F.ms.lookup m,fun c=>F.ks.lookup c⟩,fun x=>T.ds.contains x⟩
noncomputable def Fn3.fn(F:Fn3)(x:Str)(fi:FnI):Fn3:=⟨F.cur,(x,fi)::F.fs,F.ms,F.ks⟩
section
variable{cl:Cf}{T:Tab}{P:Program}{wo:PySem.World}{K:PySem.W.Frag}{mg:Z6}{base:Heap}{k:Nat}{fs:Fn3}
def zdN{α:Type}{x y:Str}{a:α}{l:List (Str×α)}{b:α}(h:((x,a)::l).lookup y=some b):(y=x/\b=a)\/l.lookup y=some b:=by
 rw [yaA] at h
 cases e:y == x with
 | true=>rw [e] at h;cases h;exact .inl ⟨eq_of_beq e,rfl⟩
 | false=>rw [e] at h;exact .inr h
def ze1{α:Type}{p:α->Prop}:∀x∈([]:List α),p x:=fun _ h=>nomatch h
def zbb{α:Type}{p:α->Prop}{a:α}{l:List α}(h:p a)(t:∀x∈l,p x):∀x∈a::l,p x:=fun x hx=>(yat.mp hx).elim (fun e=>e ▸ h) (t x)
theorem zgn{α:Type}{x:Str}{a:α}:∀{l:List (Str×α)},l.lookup x=some a->(x,a)∈l
 | [],h=>by cases h
 | (y,b)::l,h=>by
  rcases zdN h with ⟨rfl,rfl⟩ | h
  ·exact yaD
  ·exact yaw _ (zgn h)
noncomputable def zu0(K:PySem.W.Frag)(cl:Cf)(exc:List Str)(c:Str):Prop:=PySem.W.ExcCls K (cl c)/\PySem.W.kitOne K (.ref (cl c)) (.type "ValueError")=some true/\∀C∈exc,PySem.W.kitOne K (.ref (cl c)) (.ref (cl C))=some (decide (C=c)||decide (C = "FloorError"))
def zyD(hc:∀p∈T.con,∃v u,mg p.1=some u/\zaE v u/\∀w,Shd cl w v p.2)(hb:∀x∈T.blt,mg x=none)(he:∀c∈T.exc,mg c=some (.ref (cl c))/\PySem.W.excIn K (cl c) bmV "ValueError.__new__" = true)(hu:∀p∈T.und,L2.zpx K (cl p.1) (cl p.2))(hx:∀c∈T.rz,zu0 K cl T.exc c)(hfk:∀p∈T.fk,Cls cl.K (cl p.1)/\zcN cl.K (cl p.1) p.2):GOk cl (Gn T ⟨"",[],[],[]⟩) P wo K mg base 0 where
 fk:=fun c f h=>hfk (c,f) (by simpa using (show T.fk.contains (c,f)=true from h))
 mt:=fun m c fi h=>by cases h
 mks:=fun c dds fi h=>by cases h
 con:=fun x d h=>hc (x,d) (zgn h)
 fn:=fun x fi h=>by cases h
 blt:=fun x h=>hb x (by simpa using (show T.blt.contains x=true from h))
 exc:=fun c h=>he c (by simpa using (show T.exc.contains c=true from h))
 und:=fun c C h=>hu (c,C) (by simpa using (show T.und.contains (c,C)=true from h))
 isx:=fun c C b h=>by
  have h':zuj T.rz T.exc c C=some b:=h;unfold zuj at h';split at h'
  ·rename_i hc;obtain ⟨x1,x2,x3⟩:=hx c (by simpa using hc);refine ⟨x1,?_⟩;unfold zw4;split at h'
   ·rename_i hC;cases h';rw [if_pos hC];exact x2
   ·rename_i hC;rw [if_neg hC];split at h'
    ·rename_i hm;cases h';exact x3 C (by simpa using hm)
    ·cases h'
  ·cases h'
def GOk.add{x:Str}{fi:FnI}{f:Addr}{fd:FuncData}{ps:List Str}(g:GOk cl (Gn T fs) P wo K mg base k)(m:mg x=some (.ref f))(kp:PySem.W.keepIn K (.ref f)=true)(b:zcH K fd ps [])(F:FnOk P wo K mg base (CXE P wo) (k+1) f fd ps (zin cl fi.ar fi.own fi.run)) :
  GOk cl (Gn T (fs.fn x fi)) P wo K mg base (k+1) where
 con:=g.con
 fn:=fun y fj h=>by
  rcases zdN h with ⟨rfl,rfl⟩ | h
  ·exact ⟨f,fd,ps,m,kp,b,F⟩
  ·obtain ⟨f',fd',ps',h1,h2,h3,h4⟩:=g.fn y fj h;exact ⟨f',fd',ps',h1,h2,h3,h4.mono (ybu _)⟩
 blt:=g.blt
 exc:=g.exc
 und:=g.und
 isx:=g.isx
 fk:=g.fk
 mt:=fun m c fi h=>by
  obtain ⟨f',fd',ps',h1,h2,h3,h4⟩:=g.mt m c fi h;exact ⟨f',fd',ps',h1,h2,h3,h4.mono (ybu _)⟩
 mks:=fun c dds fi h=>by
  obtain ⟨f',fd',ps',dvs,ds,k',hk,z⟩:=g.mks c dds fi h;exact ⟨f',fd',ps',dvs,ds,k',Nat.le_succ_of_le hk,z⟩
end
noncomputable def zlf(K:PySem.W.Frag):Sp:=fun vs H Q _=>∃(a:Addr) (ns:List Int),vs=[.ref a]/\ns.length<=63/\zsT H/\SqL K H a (ns.map V.int)/\∀H',Q (.bl true) H'
def zrz{cl:Cf}{run:List D->Sto->Out D}(hr:∀l:List Int,l.length<=63->∃S,run [.scr l] []=.ok (.bl true) S):∀vs H Q E,zlf cl.K vs H Q E->zin cl 1 false run vs H Q E:=by
 rintro vs H Q E ⟨a,ns,rfl,hl,hO,hS,q⟩;refine ⟨rfl,⟨fun _=>none,fun _=>none⟩,⟨H,fun _=>none,[]⟩,[.scr ns],[],rfl,⟨(fun a o h=>by cases h),(fun a r h=>by cases h),rfl,(fun n ob h=>by simp at h)⟩,.cons ?_ .nil,?_⟩
 ·rcases hS with (hS | ⟨o,hS⟩) | hS
  ·rcases hO a with z | ⟨o,xs,z⟩
   ·rw [hS] at z;cases z
   ·rw [hS] at z;cases z
  ·exact .scr hS rfl
  ·exact .scrK fun H=>.inr hS
 ·obtain ⟨S',e⟩:=hr ns hl;rw [e];intro v w' _ _ r;have r':Shd cl w' v (.bl true):=r;cases r';exact q _
end S2
namespace S2
open PySem PySem.Spec PyProof.Rows L2
section
variable{cl:Cf}{T:Tab}{P:Program}{wo:PySem.World}{K:PySem.W.Frag}{mg:Z6}{base:Heap}{k:Nat}{fs:Fn3}
end
end S2
namespace S2
open PySem PySem.Spec PyProof.Rows L2
structure FnT(K:PySem.W.Frag)(x q:Str)(st:Stmt)(f:Addr):Prop where
 ex:∃(oc:Value) (od:Option Addr) (kV dc pm:Value) (an:Option Addr) (cd ct:Value) (sl:Array (Option Value)),K.lookup f=some ⟨oc,od,.func (PySem.W.fnOf x q (zbS st) (zbF st) (zac st) .none kV dc pm an cd ct),sl⟩/\PySem.W.codeIn K cd q=true/\PySem.W.keepIn K (.ref f)=true/\PySem.W.isFn K (.ref f)=true
structure GFn(K:PySem.W.Frag)(x:Str)(st:Stmt):Prop where
 ex:∃f,PySem.W.nsIn K mainGlobals x=some (some (.ref f))/\FnT K x x st f
structure MFn(K:PySem.W.Frag)(C:Addr)(m q:Str)(st:Stmt):Prop where
 ex:∃f,PySem.W.findIn K (.ref C) m=some (some (.ref f))/\FnT K m q st f
noncomputable def BB(x q:Str)(st:Stmt)(ps:List Str):Prop:=∀(kV doc pm:Value) (an:Option Addr) (cdv ct:Value) (us:List Value),us.length=ps.length->bindArgs (PySem.W.fnOf x q (zbS st) (zbF st) (zac st) .none kV doc pm an cdv ct) ⟨us,[]⟩=pure (ps.zip us)
def bb0{p:List Value->Prop}(h:p []):∀us:List Value,us.length=0->p us:=fun us e=>by rw [ybb e];exact h
def bbS{n:Nat}{p:List Value->Prop}(h:∀a:Value,∀us:List Value,us.length=n->p (a::us)):∀us:List Value,us.length=n+1->p us:=fun us e=>by
 cases us with
 | nil=>cases e
 | cons a us=>exact h a us (Nat.succ.inj e)
def bb1{p:List Value->Prop}(h:∀a0:Value,p [a0]):∀us:List Value,us.length=1->p us:=bbS fun a0=>bb0 (h a0)
def bb2{p:List Value->Prop}(h:∀a0 a1:Value,p [a0,a1]):∀us:List Value,us.length=2->p us:=bbS fun a0=>bbS fun a1=>bb0 (h a0 a1)
def bb3{p:List Value->Prop}(h:∀a0 a1 a2:Value,p [a0,a1,a2]):∀us:List Value,us.length=3->p us:=bbS fun a0=>bbS fun a1=>bbS fun a2=>bb0 (h a0 a1 a2)
def bb6{p:List Value->Prop}(h:∀a0 a1 a2 a3 a4 a5:Value,p [a0,a1,a2,a3,a4,a5]):∀us:List Value,us.length=6->p us:=bbS fun a0=>bbS fun a1=>bbS fun a2=>bbS fun a3=>bbS fun a4=>bbS fun a5=>bb0 (h a0 a1 a2 a3 a4 a5)
section
variable{cl:Cf}{T:Tab}{P:Program}{wo:PySem.World}{K:PySem.W.Frag}{mg:Z6}{base:Heap}{k:Nat}{fs:Fn3}
def FnT.un{x q:Str}{st:Stmt}{f:Addr}{ps:List Str}(p:FnT K x q st f)(b:BB x q st ps):∃fd,Fun K x q st f fd/\zcH K fd ps []/\PySem.W.keepIn K (.ref f)=true/\PySem.W.isFn K (.ref f)=true:=by
 obtain ⟨oc,od,kV,dc,pm,an,cd,ct,sl,l,c,kp,i⟩:=p.ex;have U:=znr (st:=st) l c kp;exact ⟨_,U,U.binds b,kp,i⟩
def GOk.addG{x:Str}{st:Stmt}{N ps:List Str}{own:Bool}{f_:Fs}{h:Heap}(g:GOk cl (Gn T fs) P wo K mg base k)(X:K.In h)(G:h.Ns mainGlobals mg)(p:GFn K x st)(S:FnScope N ps (zac st))(hK:K=cl.K)(hP:P=cl.P)(hW:wo=cl.wo)(b:BB x x st ps)(hd:zaC (Gn T fs) own N st=some f_) :
  GOk cl (Gn T (fs.fn x ⟨ps.length,own,zc9 N.length own f_⟩)) P wo K mg base (k+1):=by
 obtain ⟨f,a,p⟩:=p.ex;obtain ⟨fd,U,B,kp,_⟩:=p.un b;exact GOk.add g (ycy X G a) kp B (zrV U S g hK hP hW hd)
end
end S2
namespace S2
open PySem
open L2 hiding D
noncomputable def zew:Fs :=
  (zaz (sFz [] (zdU 1 false (eIf (zaj gtD (zaG zeK [(zap 0)]) (zas (.int 0))) (zaG zeK [(zaj ixD (zap 0) (zas (.int 0)))]) (zas (.int 0)))))
  (zaz (sFz [1] (zca (zgO [(zaG zeK [(zap 0)]),(zak 1)])))
  sNx))
noncomputable def zce:List S2.D->Sto->Out S2.D:=zc9 2 false zew
noncomputable def zbw:Fs :=
  (zaz (sFz [3,4] (zll 2 (zgO [(zak 3),(zak 4)]))) sNx)
noncomputable def zb8:Fs :=
  (zaz (sFz [] (zgY (.one 4) (zcZ (zaj ixD (zap 1) (zas (.int 1)))) zbw)) sNx)
noncomputable def zcV:Fs :=
  (zaz (sFz [0] (zdU 1 false (eFn zce [(zak 0)])))
  (zaz (sFz [] (zdU 2 true (ziL [])))
  (zaz (sFz [] (zgY (.one 3) (zcZ (zaj ixD (zap 1) (zas (.int 0)))) zb8))
  (zaz (sFz [] (zjw 2))
  sNx))))
noncomputable def zb2:List S2.D->Sto->Out S2.D:=zc9 5 true zcV
noncomputable def zcW:Fs :=
  (zaz (sFz [] (zca (zaj ixD (zaj ixD (zap 0) (zaj ixD (zap 1) (zas (.int 0)))) (zaj ixD (zap 1) (zas (.int 1))))))
  sNx)
noncomputable def za1:List S2.D->Sto->Out S2.D:=zc9 2 false zcW
noncomputable def zb6:Fs :=
  (zaz (sFz [0,0] (zca (zb0 1 (.one 0) (zaD (eFn zb2 [(zak 0)])) (zaj zg9 (eFn za1 [(zak 1),(zak 0)]) (zas .non)) (zak 0) [0])))
  sNx)
noncomputable def za8:List S2.D->Sto->Out S2.D:=zc9 1 true zb6
noncomputable def zbE:Fs :=
  (zaz (sFz [] (sIf (zaj ltD (zap 1) (zaG zeK [(zap 0)])) (zaz (sFz [] (zca (zaj ixD (zap 0) (zap 1)))) sNx) sNx))
  (zaz (sFz [] (sIf (zaj eqD (zap 0) (ziL [])) (zaz (sFz [] (zca (zas (.int 0)))) sNx) sNx))
  (zaz (sFz [] (zca (zaj zcM (zaj ziB (zaj ixD (zap 0) (zaj zj4 (zap 1) (zaG zeK [(zap 0)]))) (zas (.int 31))) (zap 1))))
  sNx)))
noncomputable def zbg:List S2.D->Sto->Out S2.D:=zc9 2 false zbE
noncomputable def zcX:Fs :=
  (zaz (sFz [0,1] (zdU 3 false (zaj zj4 (zaj ziB (zaj zcM (eFn zbg [(zak 0),(zak 1)]) (zaj ziB (zas (.int 6151)) (zaj zcM (zap 1) (zas (.int 1))))) (zas (.int 40692))) (zas (.int 2147483399)))))
  (zaz (sFz [] (zca (zaj zj4 (zaj zj4 (zaj zcM (zaj ziB (zap 3) (zap 3)) (zaj zr3 (zap 3) (zas (.int 31)))) (zas (.int 2147483629))) (zap 2))))
  sNx))
noncomputable def zar:List S2.D->Sto->Out S2.D:=zc9 4 false zcX
noncomputable def zaX:Fs :=
  (zaz (sFz [1,3,5,0] (zdU 6 false (zaG zbp [(zb0 1 (.one 0) (zcZ (zas (.int 4))) zd8 (eFn zar [(zak 4),(zaj zcM (zaj zcM (zaj zcM (zap 1) (zaj ziB (zas (.int 4)) (zap 3))) (zas (.int 2))) (zap 0)),(zak 2)]) [1,3,5,0])]))) (zaz (sFz [0] (sIf (zaj eqD (eFn zar [(zak 0),(zaj zcM (zaj zcM (zap 1) (zas (.int 60))) (zap 5)),(zas (.int 3))]) (zas (.int 0))) (zaz (sFz [] (zdU 6 false (zgO [(zaj ixD (zap 6) (zas (.int 0))),(zaj ixD (zap 6) (zas (.int 1))),(zaj ixD (zap 6) (zas (.int 0))),(zaj ixD (zap 6) (zas (.int 1)))]))) sNx) sNx)) (zaz (sFz [] (sIf (zaj zk8 (zap 6) (zap 4)) (zaz (sFz [6] (zll 4 (zak 6))) sNx) sNx)) sNx)))
noncomputable def zco:Fs :=
  (zaz (sFz [0,1] (zdU 3 false (zaj zcM (zas (.int 2)) (eFn zar [(zak 0),(zak 1),(zas (.int 2))]))))
  (zaz (sFz [] (zdU 4 true (ziL [])))
  (zaz (sFz [0,2] (zgY (.one 5) (zcZ (zaj zcM (zas (.int 1)) (eFn zar [(zak 0),(zaj zcM (zap 1) (zas (.int 1))),(zak 2)]))) zaX))
  (zaz (sFz [] (zca (zaG zbp [(zap 4)])))
  sNx))))
noncomputable def zbJ:List S2.D->Sto->Out S2.D:=zc9 7 false zco
noncomputable def zaY:Fs :=
  (zaz (sFz [0] (zdU 10 false (eFn zar [(zak 0),(zaj zcM (zaj zcM (zap 1) (zaj ziB (zas (.int 7)) (zap 7))) (zap 9)),(zaj ziB (zaG zeK [(zap 2)]) (zap 5))]))) (zaz (sFz [10] (zll 8 (eIf (zaj ltD (zap 10) (zaG zeK [(zap 2)])) (zak 10) (zas .non)))) sNx))
noncomputable def zbV:Fs :=
  (zaz (sFz [] (zdU 8 true (ziL []))) (zaz (sFz [4] (zgY (.one 9) (zcZ (zak 4)) zaY)) (zaz (sFz [] (zll 6 (zaG zbp [(zap 8)]))) sNx)))
noncomputable def zcp:Fs :=
  (zaz (sFz [] (zdU 6 true (ziL [])))
  (zaz (sFz [3] (zgY (.one 7) (zcZ (zak 3)) zbV))
  (zaz (sFz [] (zca (zaG zbp [(zap 6)])))
  sNx)))
noncomputable def zbk:List S2.D->Sto->Out S2.D:=zc9 11 false zcp
noncomputable def zbD:Fs :=
  (zaz (sFz [0,1,0] (zm0 3 4 false (zaj zcM (zas (.int 1)) (eFn zar [(zak 0),(zak 1),(zas (.int 4))])) false (zaj zcM (zas (.int 1)) (eFn zar [(zak 0),(zaj zcM (zap 1) (zas (.int 1))),(zas (.int 4))]))))
  (zaz (sFz [0,2,3,4,0] (zca (eFn zbk [(zak 0),(zaj zcM (zap 1) (zas (.int 2))),(zak 2),(zak 3),(zak 4),(zaj ixD (ziL [(zas (.int 1)),(zas (.int 2)),(zas (.int 3))]) (eFn zar [(zak 0),(zaj zcM (zap 1) (zas (.int 50))),(zas (.int 3))]))])))
  sNx))
noncomputable def zaJ:List S2.D->Sto->Out S2.D:=zc9 5 false zbD
noncomputable def zcE:Fs :=
  (zaz (sFz [] (zca (zkG (eUn (zfz "int") (zap 0)) (eUn zlP (eUn (zfz "bool") (zap 0))))))
  sNx)
noncomputable def zbx:List S2.D->Sto->Out S2.D:=zc9 1 false zcE
noncomputable def zbL:Fs :=
  (zaz (sFz [1] (zca (zkG (eFn zbx [(zak 1)]) (zdn leD ltD (zas (.int 0)) (zap 1) (zaG zeK [(zap 0)])))))
  sNx)
noncomputable def zbj:List S2.D->Sto->Out S2.D:=zc9 2 false zbL
noncomputable def zck:Fs :=
  (zaz (sFz [0] (zca (zaG zbp [(zb0 1 (.one 0) (zaD (zak 0)) zd8 (zgO [(zaj ixD (zap 0) (zas (.int 3))),(zaj ixD (zap 0) (zas (.int 0))),(zaj ixD (zap 0) (zas (.int 1))),(zaj ixD (zap 0) (zas (.int 2)))]) [])])))
  sNx)
noncomputable def zbI:List S2.D->Sto->Out S2.D:=zc9 1 false zck
noncomputable def za2:Fs :=
  (zaz (sFz [0,1] (zca (zaG zbp [(zb0 1 (.one 0) (zpd (zak 0)) zd8 (zaj ixD (zap 0) (zap 1)) [1])])))
  sNx)
noncomputable def zat:List S2.D->Sto->Out S2.D:=zc9 2 false za2
noncomputable def zbQ:Fs :=
  (zaz (sFz [0,0] (zca (zaG zbp [(zb0 1 (.one 0) (zcZ (zaj ixD (eFn zce [(zak 0)]) (zas (.int 1)))) zd8 (eFn zat [(zak 1),(zak 0)]) [0])])))
  sNx)
noncomputable def zaU:List S2.D->Sto->Out S2.D:=zc9 1 false zbQ
noncomputable def zbR:Fs :=
  (zaz (sFz [0] (zca (zaG zbp [(zb0 1 (.one 0) (zaD (zak 0)) zd8 (zgO [(zaj ixD (zap 0) (zas (.int 0))),(zaj ixD (zap 0) (zas (.int 3))),(zaj ixD (zap 0) (zas (.int 2))),(zaj ixD (zap 0) (zas (.int 1)))]) [])])))
  sNx)
noncomputable def zbh:List S2.D->Sto->Out S2.D:=zc9 1 false zbR
noncomputable def zbm:Fs :=
  (zaz (sFz [0] (zca (zaG zbp [(zb0 1 (.one 0) (zaD (zak 0)) zd8 (eUn zdv (zak 0)) [])])))
  sNx)
noncomputable def zaF:List S2.D->Sto->Out S2.D:=zc9 1 false zbm
noncomputable def zcY:Fs :=
  (zaz (sFz [] (zca (eIf (zaj eqD (zaj zj4 (zap 1) (zaj ixD (zpg "Ways" "size" (zak 0)) (zas (.int 1)))) (zas (.int 0))) (zaj ixD (zap 3) (zas (.int 3))) (zaj ixD (zap 2) (eUn zpE (zas (.int 1)))))))
  sNx)
noncomputable def zcR:List S2.D->Sto->Out S2.D:=zc9 4 false zcY
noncomputable def zcl:Fs :=
  (zaz (sFz [1,0] (zca (zaG zbp [(zb0 1 (.one 0) (zcZ (zaG zeK [(zap 0)])) zd8 (zaj ixD (zap 2) (zaj zj4 (zaj zpC (zap 0) (zap 1)) (zaG zeK [(zap 2)]))) [1,0])])))
  sNx)
noncomputable def zbi:List S2.D->Sto->Out S2.D:=zc9 2 false zcl
noncomputable def zfE:Fs :=
  (zaz (sFz [0,1] (zca (zaG zbp [(zb0 1 (.one 0) (zaD (zak 0)) zd8 (eFn zbi [(zak 0),(zak 1)]) [1])])))
  sNx)
noncomputable def zd1:List S2.D->Sto->Out S2.D:=zc9 2 false zfE
end S2
namespace S2
open PySem
open L2 hiding D
noncomputable def Fo.seq(b:Fs):Fo->Fo | .nx ρ' S'=>b ρ' S' | o=>o
noncomputable def zsG(a b:Fs)(ρ:Env):Out D->Fo | .ok d S'=>(match isB d with | some true=>a ρ S' | some false=>b ρ S' | none=>.bad) | .exc x S'=>.ex x ρ S' | .bad=>.bad
noncomputable def zuh(i:Nat)(o:Bool)(ρ:Env):Out D->Fo | .ok d S'=>.nx (ρ.set i (some (o,d))) S' | .exc c S'=>.ex c ρ S' | .bad=>.bad
noncomputable def zuf(ρ:Env):Out D->Fo | .ok _ S'=>.nx ρ S' | .exc c S'=>.ex c ρ S' | .bad=>.bad
noncomputable def zud(ρ:Env):Out D->Fo | .ok d S'=>.rt d S' | .exc c S'=>.ex c ρ S' | .bad=>.bad
noncomputable def zrH(S:Sto):Option (Option (Bool×D))->Fo | some (some (true,d))=>.rt d S | _=>.bad
noncomputable def zma(i:Nat)(ρ:Env)(l:List D):Out D->Fo
 | .ok d S'=>if zaN l.length then .nx (ρ.set i (some (true,.lst (l++[d])))) S' else .bad
 | .exc c S'=>.ex c ρ S' | .bad=>.bad
noncomputable def zwY(i:Nat)(f:Fe)(ρ:Env)(S:Sto):Option (Option (Bool×D))->Fo | some (some (true,.lst l))=>zma i ρ l (f ρ S) | _=>.bad
noncomputable def zo0(i:Nat)(ρ:Env)(l:List D):Out D->Fo
 | .ok (.lst k) S'=>if zaN (l.length+k.length) then .nx (ρ.set i (some (true,.lst (l++k)))) S' else .bad
 | .ok _ _=>.bad
 | .exc c S'=>.ex c ρ S' | .bad=>.bad
noncomputable def zwV(i:Nat)(f:Fe)(ρ:Env)(S:Sto):Option (Option (Bool×D))->Fo | some (some (true,.lst l))=>zo0 i ρ l (f ρ S) | _=>.bad
noncomputable def zoY(i j:Nat)(o1 o2:Bool)(d1:D)(ρ:Env):Out D->Fo | .ok d2 S2=>.nx ((ρ.set i (some (o1,d1))).set j (some (o2,d2))) S2 | .exc c S'=>.ex c ρ S' | .bad=>.bad
noncomputable def zwO(i j:Nat)(o1 o2:Bool)(g:Fe)(ρ:Env):Out D->Fo | .ok d1 S1=>zoY i j o1 o2 d1 ρ (g ρ S1) | .exc c S'=>.ex c ρ S' | .bad=>.bad
noncomputable def zue(S:Sto):Option Env->Fo | some ρ'=>.nx ρ' S | none=>.bad
noncomputable def zo4(t:Tg)(ρ:Env):Out D->Fo | .ok d S'=>zue S' (t.put ρ d) | .exc c S'=>.ex c ρ S' | .bad=>.bad
noncomputable def zwT(t:Tg)(a:Fs)(ρ:Env):Out (List D)->Fo | .ok ds S'=>zeL t a ds ρ S' | .exc c S'=>.ex c ρ S' | .bad=>.bad
noncomputable def zwK(S:Sto):Option (Option (Bool×D))->Out D | some (some (false,d))=>.ok d S | _=>.bad
noncomputable def zwX(S:Sto):Option (Option (Bool×D))->Out D | some (some (_,d))=>.ok d S | _=>.bad
noncomputable def kUn(u:D->Option D):Out D->Out D | .ok a S=>Out.of (u a) S | .exc c S=>.exc c S | .bad=>.bad
noncomputable def zkl(u:D->D->Option D)(a:D):Out D->Out D | .ok b S=>Out.of (u a b) S | .exc c S=>.exc c S | .bad=>.bad
noncomputable def zug(u:D->D->Option D)(g:Fe)(ρ:Env):Out D->Out D | .ok a S=>zkl u a (g ρ S) | .exc c S=>.exc c S | .bad=>.bad
noncomputable def kIf(f g:Fe)(ρ:Env):Out D->Out D | .ok d S1=>(match isB d with | some true=>f ρ S1 | some false=>g ρ S1 | none=>.bad) | .exc c S=>.exc c S | .bad=>.bad
noncomputable def zui(g:Fe)(ρ:Env):Out D->Out D | .ok d S1=>(match isB d with | some true=>g ρ S1 | some false=>.ok (.bl false) S1 | none=>.bad) | .exc c S=>.exc c S | .bad=>.bad
noncomputable def kOr(g:Fe)(ρ:Env):Out D->Out D | .ok d S1=>(match isB d with | some true=>.ok (.bl true) S1 | some false=>g ρ S1 | none=>.bad) | .exc c S=>.exc c S | .bad=>.bad
noncomputable def zgq(d:D):Out (List D)->Out (List D) | .ok ds S=>.ok (d::ds) S | .exc c S=>.exc c S | .bad=>.bad
noncomputable def zo1(fs:List Fe)(ρ:Env):Out D->Out (List D) | .ok d S=>zgq d (zah fs ρ S) | .exc c S=>.exc c S | .bad=>.bad
noncomputable def zwL:Out (List D)->Out D | .ok ds S=>if zaN ds.length then .ok (.tup ds) S else .bad | .exc c S=>.exc c S | .bad=>.bad
noncomputable def zwQ:Out (List D)->Out D | .ok ds S=>if zaN ds.length then .ok (.lst ds) S else .bad | .exc c S=>.exc c S | .bad=>.bad
noncomputable def zo3(u:List D->Option D):Out (List D)->Out D | .ok ds S=>Out.of (u ds) S | .exc c S=>.exc c S | .bad=>.bad
noncomputable def kFn(r:List D->Sto->Out D):Out (List D)->Out D | .ok ds S=>r ds S | .exc c S=>.exc c S | .bad=>.bad
noncomputable def zeo(v:D->D->Option D)(b:D):Out D->Out D | .ok c S=>Out.of (v b c) S | .exc c S=>.exc c S | .bad=>.bad
noncomputable def zen(v:D->D->Option D)(h:Fe)(ρ:Env)(b:D)(S:Sto):Option D->Out D | some d=>(match isB d with | some true=>zeo v b (h ρ S) | some false=>.ok (.bl false) S | none=>.bad) | none=>.bad
noncomputable def zfx(u v:D->D->Option D)(h:Fe)(ρ:Env)(a:D):Out D->Out D | .ok b S=>zen v h ρ b S (u a b) | .exc c S=>.exc c S | .bad=>.bad
noncomputable def znm(u v:D->D->Option D)(g h:Fe)(ρ:Env):Out D->Out D | .ok a S=>zfx u v h ρ a (g ρ S) | .exc c S=>.exc c S | .bad=>.bad
noncomputable def zwR:Out D->Out (Option Int) | .ok (.int i) S=>.ok (some i) S | .ok _ _=>.bad | .exc c S=>.exc c S | .bad=>.bad
noncomputable def zsB(d:D)(l:Option Int):Out (Option Int)->Out D | .ok u S=>Out.of (slD d l u) S | .exc c S=>.exc c S | .bad=>.bad
noncomputable def zsC(d:D)(u:Option Fe)(ρ:Env):Out (Option Int)->Out D | .ok l S=>zsB d l (zcc u ρ S) | .exc c S=>.exc c S | .bad=>.bad
noncomputable def kSl(l u:Option Fe)(ρ:Env):Out D->Out D | .ok d S=>zsC d u ρ (zcc l ρ S) | .exc c S=>.exc c S | .bad=>.bad
noncomputable def zki:Out D->Out (List D) | .ok (.lst l) S=>.ok l S | .ok (.tup l) S=>.ok l S | .ok _ _=>.bad | .exc c S=>.exc c S | .bad=>.bad
noncomputable def zrG:Out (List D)->Out (List D) | .ok ds S1=>(match ds with | [.int j]=>if -1000000<=j/\j<=1000000 then .ok (zao 0 j) S1 else .bad | _=>.bad) | .exc c S=>.exc c S | .bad=>.bad
noncomputable def zrF:Out (List D)->Out (List D) | .ok ds S1=>(match ds with | [.int i,.int j]=>if (-1000000<=i/\i<=1000000)/\-1000000<=j/\j<=1000000 then .ok (zao i j) S1 else .bad | _=>.bad) | .exc c S=>.exc c S | .bad=>.bad
noncomputable def zkk:Out (List D)->Out D | .ok ys S2=>if zaN ys.length then .ok (.lst ys) S2 else .bad | _=>.bad
noncomputable def zo2(tg:Tg)(c elt:Fe)(ρ0:Env):Out (List D)->Out D | .ok ds S1=>zkk (zbo tg c elt ρ0 ds S1) | .exc c S=>.exc c S | .bad=>.bad
noncomputable def zwW:Option (Option (Bool×D))->Option (Bool×D) | some (some (false,d))=>some (false,d) | _=>none
noncomputable def zsH(ρ:Env)(i:Nat):Option (Option (Bool×D))->Env | some (some (true,d))=>ρ.set i (some (false,d)) | _=>ρ
noncomputable def zsD(own:Bool):Fo->Out D | .rt d S'=>.ok d S' | .nx _ S'=>if own then .bad else .ok .non S' | .ex c _ S'=>.exc c S' | _=>.bad
noncomputable def zsE(u:List D->D->Option D)(l:List D):Out D->Out D | .ok d S=>Out.of (u l d) S | .exc c S=>.exc c S | .bad=>.bad
noncomputable def kMt(u:List D->D->Option D)(f:Fe)(ρ:Env)(S:Sto):Option (Option (Bool×D))->Out D | some (some (_,.lst l))=>zsE u l (f ρ S) | _=>.bad
section
variable{ρ:Env}{S:Sto}{f g h k c:Fe}{a b:Fs}
@[simp] def zxy{u:List D->D->Option D}{i:Nat}:eMt u i f ρ S=kMt u f ρ S ρ[i]?:=by
 show (match ρ[i]? with | some (some (_,.lst l))=>(f ρ S).bind fun d S1=>Out.of (u l d) S1 | _=>.bad)=_
 cases ρ[i]? with
 | none=>rfl
 | some o=>cases o with
  | none=>rfl
  | some p =>
   obtain ⟨b,d⟩:=p
   cases d with
   | lst l=>show ((f ρ S).bind fun d S1=>Out.of (u l d) S1)=zsE u l (f ρ S);cases f ρ S<;>rfl
   | _=>rfl
@[simp] def zyY{u:List D->D->Option D}{o:Bool}{l:List D}:kMt u f ρ S (some (some (o,.lst l)))=zsE u l (f ρ S):=(rfl)
@[simp] def zyc{u:List D->D->Option D}{l:List D}{d:D}:zsE u l (.ok d S)=Out.of (u l d) S:=(rfl)
@[simp] def zu5:zaz a b ρ S=(a ρ S).seq b:=by
 show (match a ρ S with | .nx ρ' S'=>b ρ' S' | o=>o)=_
 cases a ρ S<;>rfl
@[simp] def zwb:(Fo.nx ρ S).seq b=b ρ S:=(rfl)
@[simp] def zwa{d:D}:(Fo.rt d S).seq b=.rt d S:=(rfl)
@[simp] def zv9:(Fo.bk ρ S).seq b=.bk ρ S:=(rfl)
@[simp] def zv8:(Fo.ct ρ S).seq b=.ct ρ S:=(rfl)
@[simp] def zv7{x:Str}:(Fo.ex x ρ S).seq b=.ex x ρ S:=(rfl)
@[simp] def zv6:Fo.bad.seq b=.bad:=(rfl)
@[simp] def zs6:zuz ρ S=.ok (zw2 []) S:=(rfl)
@[simp] def zs7:zfH ρ S=.ok (zaH []) S:=(rfl)
def zfd{i:Nat}{o:Bool}{ps:List (Int×Int)}(h:ρ[i]?=some (some (o,zaH ps))):zdT i ρ=some (o,ps):=by
 unfold zdT;rw [h];show (ziZ (dsI ps)).map _=_;rw [zd2];rfl
def zrU{i:Nat}{o:Bool}{ps:List (Int×Int)}{f g:Fe}{z:D}{j:Int}{S1 S2:Sto}(h:ρ[i]?=some (some (o,zaH ps)))(hf:f ρ S=.ok (.int j) S1)(hg:g ρ S1=.ok z S2):zeO i f g ρ S=.ok (((zbu ps j).map D.int).getD z) S2:=by
 unfold zeO;rw [zfd h];dsimp only;rw [hf];dsimp only [Out.bind];rw [hg]
def zqQ{i:Nat}{ps:List (Int×Int)}{fk fe:Fe}{j v:Int}{S1 S2:Sto}(h:ρ[i]?=some (some (true,zaH ps)))(he:fe ρ S=.ok (.int v) S1)(hf:fk ρ S1=.ok (.int j) S2)(hl:ps.length<=100000):zfg i fk fe ρ S=.nx (ρ.set i (some (true,zaH (zgN ps j v)))) S2:=by
 unfold zfg;rw [zfd h];dsimp only;rw [he];dsimp only;rw [hf];dsimp only;rw [if_pos (show zaN ps.length=true from yaH hl)]
def zrM{i:Nat}{o:Bool}{ps:List (Int×Int)}{l:List D}(h:ρ[i]?=some (some (o,zaH ps)))(hs:zpD ps=some l):zpf i ρ S=.ok (.lst l) S:=by
 unfold zpf;rw [zfd h];dsimp only;rw [hs]
def zrr{i:Nat}{o:Bool}{ps:List (Int×Int)}{f:Fe}{j:Int}{S1:Sto}(h:ρ[i]?=some (some (o,zaH ps)))(hf:f ρ S=.ok (.int j) S1):zfG i f ρ S=.ok (.bl (zbu ps j).isNone) S1:=by
 unfold zfG;rw [zfd h];dsimp only;rw [hf];rfl
def zrZ{i:Nat}{l k:List D}{S1:Sto}(h:ρ[i]?=some (some (true,.lst l)))(hf:f ρ S=.ok (.tup k) S1)(hl:l.length+k.length<=100000):zgZ i f ρ S=.nx (ρ.set i (some (true,.lst (l++k)))) S1:=by
 unfold zgZ;rw [h];dsimp only;rw [hf];dsimp only;rw [if_pos (show zaN (l.length+k.length)=true from yaH hl)]
@[simp] def zxf{is:List Nat}:sFz is a ρ S=a (frz is ρ) S:=(rfl)
@[simp] def zvv:frz [] ρ=ρ:=(rfl)
@[simp] def zvu{i:Nat}{is:List Nat}:frz (i::is) ρ=frz is (frz1 ρ i):=(rfl)
@[simp] def zxt(i:Nat):frz1 ρ i=zsH ρ i ρ[i]?:=(rfl)
@[simp] def zwt{i:Nat}{d:D}:zsH ρ i (some (some (true,d)))=ρ.set i (some (false,d)):=(rfl)
@[simp] def zws{i:Nat}{d:D}:zsH ρ i (some (some (false,d)))=ρ:=(rfl)
@[simp] def zwr{i:Nat}:zsH ρ i (some none)=ρ:=(rfl)
@[simp] def zxd:sNx ρ S=.nx ρ S:=(rfl)
@[simp] def zxg:sBk ρ S=.bk ρ S:=(rfl)
@[simp] def zvb{i:Nat}{o:Bool}:zdU i o f ρ S=zuh i o ρ (f ρ S):=(rfl)
@[simp] def zwF{i:Nat}{o:Bool}{d:D}:zuh i o ρ (.ok d S)=.nx (ρ.set i (some (o,d))) S:=(rfl)
@[simp] def zwE{i:Nat}{o:Bool}{x:Str}:zuh i o ρ (.exc x S)=.ex x ρ S:=(rfl)
@[simp] def zva:zqD f ρ S=zuf ρ (f ρ S):=(rfl)
@[simp] def zwx{d:D}:zuf ρ (.ok d S)=.nx ρ S:=(rfl)
@[simp] def zww{x:Str}:zuf ρ (.exc x S)=.ex x ρ S:=(rfl)
@[simp] def zu6:zca f ρ S=zud ρ (f ρ S):=(rfl)
@[simp] def zwj{d:D}:zud ρ (.ok d S)=.rt d S:=(rfl)
@[simp] def zwi{x:Str}:zud ρ (.exc x S)=.ex x ρ S:=(rfl)
@[simp] def zsX:zlk ρ S=.rt .non S:=(rfl)
@[simp] def zsW{i:Nat}:zjw i ρ S=zrH S ρ[i]?:=(rfl)
@[simp] def zwh{d:D}:zrH S (some (some (true,d)))=.rt d S:=(rfl)
@[simp] def zxe:sIf c a b ρ S=zsG a b ρ (c ρ S):=(rfl)
@[simp] def zwq:zsG a b ρ (.ok (.bl true) S)=a ρ S:=(rfl)
@[simp] def zwp:zsG a b ρ (.ok (.bl false) S)=b ρ S:=(rfl)
@[simp] def zwo{x:Str}:zsG a b ρ (.exc x S)=.ex x ρ S:=(rfl)
@[simp] def zvc{i:Nat}:zll i f ρ S=zwY i f ρ S ρ[i]?:=(rfl)
@[simp] def zyx{i:Nat}{l:List D}:zwY i f ρ S (some (some (true,.lst l)))=zma i ρ l (f ρ S):=(rfl)
@[simp] def zwH{i:Nat}{l:List D}{d:D}:zma i ρ l (.ok d S)=if zaN l.length then .nx (ρ.set i (some (true,.lst (l++[d])))) S else .bad:=(rfl)
@[simp] def zwG{i:Nat}{l:List D}{x:Str}:zma i ρ l (.exc x S)=.ex x ρ S:=(rfl)
@[simp] def zu9{i:Nat}:zsx i f ρ S=zwV i f ρ S ρ[i]?:=(rfl)
@[simp] def zyp{i:Nat}{l:List D}:zwV i f ρ S (some (some (true,.lst l)))=zo0 i ρ l (f ρ S):=(rfl)
@[simp] def zwv{i:Nat}{l k:List D}:zo0 i ρ l (.ok (.lst k) S)=if zaN (l.length+k.length) then .nx (ρ.set i (some (true,.lst (l++k)))) S else .bad:=(rfl)
@[simp] def zu7{i j:Nat}{o1 o2:Bool}:zm0 i j o1 f o2 g ρ S=zwO i j o1 o2 g ρ (f ρ S):=(rfl)
@[simp] def zx8{i j:Nat}{o1 o2:Bool}{d:D}:zwO i j o1 o2 g ρ (.ok d S)=zoY i j o1 o2 d ρ (g ρ S):=(rfl)
@[simp] def zwl{i j:Nat}{o1 o2:Bool}{d e:D}:zoY i j o1 o2 d ρ (.ok e S)=.nx ((ρ.set i (some (o1,d))).set j (some (o2,e))) S:=(rfl)
@[simp] def zs0{t:Tg}:zg0 t f ρ S=zo4 t ρ (f ρ S):=by
 unfold zg0 zo4
 cases f ρ S with
 | ok d S'=>dsimp only;cases t.put ρ d<;>rfl
 | exc c S'=>rfl
 | bad=>rfl
@[simp] def zwD{t:Tg}{d:D}:zo4 t ρ (.ok d S)=zue S (t.put ρ d):=(rfl)
@[simp] def zx7{ρ':Env}:zue S (some ρ')=.nx ρ' S:=(rfl)
@[simp] def zu8{t:Tg}{it:Fi}:zgY t it a ρ S=zwT t a ρ (it ρ S):=(rfl)
@[simp] def zyl{t:Tg}{ds:List D}:zwT t a ρ (.ok ds S)=zeL t a ds ρ S:=(rfl)
@[simp] def zvi{i:Nat}{d:D}:(Tg.one i).put ρ d=some (ρ.set i (some (false,d))):=(rfl)
@[simp] def zvf{is:List Nat}{ds:List D}:(Tg.tup is).put ρ (.tup ds)=zdL is ds ρ:=(rfl)
@[simp] def zvh{i:Nat}{is:List Nat}{d:D}{ds:List D}:zdL (i::is) (d::ds) ρ=zdL is ds (ρ.set i (some (false,d))):=(rfl)
@[simp] def zvg:zdL [] [] ρ=some ρ:=(rfl)
@[simp] def zvw{i:Nat}:zak i ρ S=zwK S ρ[i]?:=(rfl)
@[simp] def zx0{d:D}:zwK S (some (some (false,d)))=.ok d S:=(rfl)
@[simp] def zvD{i:Nat}:zap i ρ S=zwX S ρ[i]?:=(rfl)
@[simp] def zyw{o:Bool}{d:D}:zwX S (some (some (o,d)))=.ok d S:=(rfl)
@[simp] def zvC{d:D}:zas d ρ S=.ok d S:=(rfl)
@[simp] def zxv{u:D->Option D}:eUn u f ρ S=kUn u (f ρ S):=by
 unfold eUn;cases f ρ S<;>rfl
@[simp] def zx2{u:D->Option D}{d:D}:kUn u (.ok d S)=Out.of (u d) S:=(rfl)
@[simp] def zx1{u:D->Option D}{x:Str}:kUn u (.exc x S)=.exc x S:=(rfl)
@[simp] def zvE{u:D->D->Option D}:zaj u f g ρ S=zug u g ρ (f ρ S):=by
 unfold zaj
 cases f ρ S with
 | ok a S1=>show ((g ρ S1).bind fun b S2=>Out.of (u a b) S2)=zkl u a (g ρ S1);cases g ρ S1<;>rfl
 | exc c S=>rfl
 | bad=>rfl
@[simp] def zwC{u:D->D->Option D}{d:D}:zug u g ρ (.ok d S)=zkl u d (g ρ S):=(rfl)
@[simp] def zwB{u:D->D->Option D}{x:Str}:zug u g ρ (.exc x S)=.exc x S:=(rfl)
@[simp] def zwA{u:D->D->Option D}{d e:D}:zkl u d (.ok e S)=Out.of (u d e) S:=(rfl)
@[simp] def zwz{u:D->D->Option D}{d:D}{x:Str}:zkl u d (.exc x S)=.exc x S:=(rfl)
@[simp] def zxA:eIf c f g ρ S=kIf f g ρ (c ρ S):=by
 unfold eIf;cases c ρ S<;>rfl
@[simp] def zyj:kIf f g ρ (.ok (.bl true) S)=f ρ S:=(rfl)
@[simp] def zyi:kIf f g ρ (.ok (.bl false) S)=g ρ S:=(rfl)
@[simp] def zvF:zkG f g ρ S=zui g ρ (f ρ S):=by
 unfold zkG;cases f ρ S<;>rfl
@[simp] def zwJ:zui g ρ (.ok (.bl true) S)=g ρ S:=(rfl)
@[simp] def zwI:zui g ρ (.ok (.bl false) S)=.ok (.bl false) S:=(rfl)
@[simp] def zxx:eOr f g ρ S=kOr g ρ (f ρ S):=by
 unfold eOr;cases f ρ S<;>rfl
@[simp] def zya:kOr g ρ (.ok (.bl true) S)=.ok (.bl true) S:=(rfl)
@[simp] def zx9:kOr g ρ (.ok (.bl false) S)=g ρ S:=(rfl)
@[simp] def zs3:zah [] ρ S=.ok [] S:=(rfl)
@[simp] def zs4{fs:List Fe}:zah (f::fs) ρ S=zo1 fs ρ (f ρ S):=by
 show ((f ρ S).bind fun d S1=>(zah fs ρ S1).bind fun ds S2=>.ok (d::ds) S2)=_
 cases f ρ S with
 | ok a S1=>show ((zah fs ρ S1).bind fun ds S2=>.ok (a::ds) S2)=zgq a (zah fs ρ S1);cases zah fs ρ S1<;>rfl
 | exc c S=>rfl
 | bad=>rfl
@[simp] def zt9{fs:List Fe}{d:D}:zo1 fs ρ (.ok d S)=zgq d (zah fs ρ S):=(rfl)
@[simp] def zt8{fs:List Fe}{x:Str}:zo1 fs ρ (.exc x S)=.exc x S:=(rfl)
@[simp] def zt7{d:D}{ds:List D}:zgq d (.ok ds S)=.ok (d::ds) S:=(rfl)
@[simp] def zt6{d:D}{x:Str}:zgq d (.exc x S)=.exc x S:=(rfl)
@[simp] def zvx{fs:List Fe}:zgO fs ρ S=zwL (zah fs ρ S):=by
 unfold zgO;cases zah fs ρ S<;>rfl
@[simp] def zx3{ds:List D}:zwL (.ok ds S)=if zaN ds.length then .ok (.tup ds) S else .bad:=(rfl)
@[simp] def zvz{fs:List Fe}:ziL fs ρ S=zwQ (zah fs ρ S):=by
 unfold ziL;cases zah fs ρ S<;>rfl
@[simp] def zye{ds:List D}:zwQ (.ok ds S)=if zaN ds.length then .ok (.lst ds) S else .bad:=(rfl)
@[simp] def zs8{u:List D->Option D}{fs:List Fe}:zaG u fs ρ S=zo3 u (zah fs ρ S):=by
 unfold zaG;cases zah fs ρ S<;>rfl
@[simp] def zuc{u:List D->Option D}{ds:List D}:zo3 u (.ok ds S)=Out.of (u ds) S:=(rfl)
@[simp] def zub{u:List D->Option D}{x:Str}:zo3 u (.exc x S)=.exc x S:=(rfl)
@[simp] def zxB{r:List D->Sto->Out D}{fs:List Fe}:eFn r fs ρ S=kFn r (zah fs ρ S):=by
 unfold eFn;cases zah fs ρ S<;>rfl
@[simp] def zyn{r:List D->Sto->Out D}{ds:List D}:kFn r (.ok ds S)=r ds S:=(rfl)
@[simp] def zym{r:List D->Sto->Out D}{x:Str}:kFn r (.exc x S)=.exc x S:=(rfl)
@[simp] def zst{u v:D->D->Option D}:zdn u v f g h ρ S=znm u v g h ρ (f ρ S):=by
 show ((f ρ S).bind fun a S1=>(g ρ S1).bind fun b S2=>match (u a b).bind isB with
  | some true=>(h ρ S2).bind fun c S3=>Out.of (v b c) S3
  | some false=>.ok (.bl false) S2
  | none=>.bad)=_
 cases f ρ S with
 | ok a S1 =>
  show ((g ρ S1).bind fun b S2=>match (u a b).bind isB with
   | some true=>(h ρ S2).bind fun c S3=>Out.of (v b c) S3
   | some false=>.ok (.bl false) S2
   | none=>.bad)=zfx u v h ρ a (g ρ S1)
  cases g ρ S1 with
  | ok b S2 =>
   show (match (u a b).bind isB with
    | some true=>(h ρ S2).bind fun c S3=>Out.of (v b c) S3
    | some false=>.ok (.bl false) S2
    | none=>.bad)=zen v h ρ b S2 (u a b)
   cases hu:u a b with
   | none=>rfl
   | some d =>
    show (match isB d with
     | some true=>(h ρ S2).bind fun c S3=>Out.of (v b c) S3
     | some false=>.ok (.bl false) S2
     | none=>.bad)=(match isB d with | some true=>zeo v b (h ρ S2) | some false=>.ok (.bl false) S2 | none=>.bad)
    cases hb:isB d with
    | none=>rfl
    | some x=>cases x with
     | true=>show ((h ρ S2).bind fun c S3=>Out.of (v b c) S3)=zeo v b (h ρ S2);cases h ρ S2<;>rfl
     | false=>rfl
  | exc c S=>rfl
  | bad=>rfl
 | exc c S=>rfl
 | bad=>rfl
@[simp] def zyu{u v:D->D->Option D}{d:D}:znm u v g h ρ (.ok d S)=zfx u v h ρ d (g ρ S):=(rfl)
@[simp] def zyt{u v:D->D->Option D}{d e:D}:zfx u v h ρ d (.ok e S)=zen v h ρ e S (u d e):=(rfl)
@[simp] def zys{v:D->D->Option D}{e:D}:zen v h ρ e S (some (.bl true))=zeo v e (h ρ S):=(rfl)
@[simp] def zyr{v:D->D->Option D}{e:D}:zen v h ρ e S (some (.bl false))=.ok (.bl false) S:=(rfl)
@[simp] def zyq{v:D->D->Option D}{d e:D}:zeo v e (.ok d S)=Out.of (v e d) S:=(rfl)
@[simp] def zss:zcc none ρ S=.ok none S:=(rfl)
@[simp] def zsr:zcc (some f) ρ S=zwR (f ρ S):=by
 show ((f ρ S).bind fun d S1=>match d with | .int i=>.ok (some i) S1 | _=>.bad)=_
 cases f ρ S with
 | ok d S'=>cases d<;>rfl
 | exc c S'=>rfl
 | bad=>rfl
@[simp] def zyh{i:Int}:zwR (.ok (.int i) S)=.ok (some i) S:=(rfl)
@[simp] def zxw{l u:Option Fe}:eSl f l u ρ S=kSl l u ρ (f ρ S):=by
 unfold eSl
 cases f ρ S with
 | ok d S1 =>
  show ((zcc l ρ S1).bind fun l S2=>(zcc u ρ S2).bind fun u S3=>Out.of (slD d l u) S3)=zsC d u ρ (zcc l ρ S1)
  cases zcc l ρ S1 with
  | ok l S2=>show ((zcc u ρ S2).bind fun u S3=>Out.of (slD d l u) S3)=zsB d l (zcc u ρ S2);cases zcc u ρ S2<;>rfl
  | exc c S=>rfl
  | bad=>rfl
 | exc c S=>rfl
 | bad=>rfl
@[simp] def zyX{l u:Option Fe}{d:D}:kSl l u ρ (.ok d S)=zsC d u ρ (zcc l ρ S):=(rfl)
@[simp] def zx5{u:Option Fe}{d:D}{l:Option Int}:zsC d u ρ (.ok l S)=zsB d l (zcc u ρ S):=(rfl)
@[simp] def zx4{d:D}{l u:Option Int}:zsB d l (.ok u S)=Out.of (slD d l u) S:=(rfl)
@[simp] def zs2:zaD f ρ S=zki (f ρ S):=by
 show ((f ρ S).bind fun d S1=>match d with | .lst l=>.ok l S1 | .tup l=>.ok l S1 | _=>.bad)=_
 cases f ρ S with
 | ok d S'=>cases d<;>rfl
 | exc c S'=>rfl
 | bad=>rfl
@[simp] def zyg{l:List D}:zki (.ok (.lst l) S)=.ok l S:=(rfl)
@[simp] def zyf{l:List D}:zki (.ok (.tup l) S)=.ok l S:=(rfl)
@[simp] def zve:zcZ f ρ S=zrG (zah [f] ρ S):=by
 unfold zcZ;cases zah [f] ρ S<;>rfl
@[simp] def zwg{j:Int}:zrG (.ok [.int j] S)=if -1000000<=j/\j<=1000000 then .ok (zao 0 j) S else .bad:=(rfl)
@[simp] def zvd:zkE f g ρ S=zrF (zah [f,g] ρ S):=by
 unfold zkE;cases zah [f,g] ρ S<;>rfl
@[simp] def zwf{i j:Int}:zrF (.ok [.int i,.int j] S)=if (-1000000<=i/\i<=1000000)/\-1000000<=j/\j<=1000000 then .ok (zao i j) S else .bad:=(rfl)
@[simp] def zvG{n:Nat}{t:Tg}{it:Fi}{caps:List Nat}:zb0 n t it c f caps ρ S=zo2 t c f (zbn n caps ρ) (it ρ S):=by
 unfold zb0
 cases it ρ S with
 | ok ds S' =>
  simp only [Out.bind,zo2]
  cases zbo t c f (zbn n caps ρ) ds S'<;>rfl
 | exc c S'=>rfl
 | bad=>rfl
@[simp] def zwy{t:Tg}{ρ0:Env}{ds:List D}:zo2 t c f ρ0 (.ok ds S)=zkk (zbo t c f ρ0 ds S):=(rfl)
@[simp] def zua{ys:List D}:zkk (.ok ys S)=if zaN ys.length then .ok (.lst ys) S else .bad:=(rfl)
@[simp] def zw9:zd8 ρ S=.ok (.bl true) S:=(rfl)
@[simp] def zpK{n:Nat}{caps:List Nat}:zbn n caps ρ=List.replicate n none++caps.map (zsc ρ):=(rfl)
@[simp] def zvH{i:Nat}:zsc ρ i=zwW ρ[i]?:=(rfl)
@[simp] def zyv{d:D}:zwW (some (some (false,d)))=some (false,d):=(rfl)
def za6{n:Nat}{own:Bool}{fs:Fs}{ds:List D}:zc9 n own fs ds S=zsD own (fs (ds.map (fun d=>some (false,d))++List.replicate (n-ds.length) none) S):=(rfl)
@[simp] def zwe{own:Bool}{d:D}:zsD own (.rt d S)=.ok d S:=(rfl)
@[simp] def zwd:zsD false (.nx ρ S)=.ok .non S:=(rfl)
@[simp] def zwc{own:Bool}{x:Str}:zsD own (.ex x ρ S)=.exc x S:=(rfl)
@[simp] def zxs{b:Bool}:isB (.bl b)=some b:=(rfl)
@[simp] def zxh{b:Bool}:zlP (.bl b)=some (.bl (!b)):=(rfl)
@[simp] def zxi{i:Int}:zpE (.int i)=some (.int (-i)):=(rfl)
@[simp] def zvK{i j:Int}:zcM (.int i) (.int j)=some (.int (i+j)):=(rfl)
@[simp] def zvI{x y:List D}:zcM (.tup x) (.tup y)=if zaN (x.length+y.length) then some (.tup (x++y)) else none:=(rfl)
@[simp] def zvJ{x y:List D}:zcM (.lst x) (.lst y)=if zaN (x.length+y.length) then some (.lst (x++y)) else none:=(rfl)
@[simp] def zxa{i j:Int}:zpC (.int i) (.int j)=some (.int (i-j)):=(rfl)
@[simp] def zxk{i j:Int}:ziB (.int i) (.int j)=if zbK i||zbK j then some (.int (i*j)) else none:=(rfl)
@[simp] def zxl{i j:Int}:zj4 (.int i) (.int j)=if 0<j then some (.int (i % j)) else none:=(rfl)
@[simp] def zxC{i j:Int}:zr3 (.int i) (.int j)=if 0<j/\j<1073741824 then some (.int (i / j)) else none:=(rfl)
@[simp] def zyR{i j:Int}:ltD (.int i) (.int j)=some (.bl (decide (i<j))):=(rfl)
@[simp] def zyS{i j:Int}:leD (.int i) (.int j)=some (.bl (decide (i<=j))):=(rfl)
@[simp] def zyT{i j:Int}:gtD (.int i) (.int j)=some (.bl (decide (j<i))):=(rfl)
@[simp] def zyU{i j:Int}:geD (.int i) (.int j)=some (.bl (decide (j<=i))):=(rfl)
@[simp] def zxo{l:List D}{i:Int}:ixD (.lst l) (.int i)=atI l i:=(rfl)
@[simp] def zxm{l:List D}{i:Int}:ixD (.tup l) (.int i)=atI l i:=(rfl)
@[simp] def zxn{l:List Int}{i:Int}:ixD (.scr l) (.int i)=(atI l i).map D.int:=(rfl)
@[simp] def zvt{l:List D}:zeK [.lst l]=some (.int l.length):=(rfl)
@[simp] def zpJ{l:List D}:zeK [.tup l]=some (.int l.length):=(rfl)
@[simp] def zvs{l:List Int}:zeK [.scr l]=some (.int l.length):=(rfl)
@[simp] def zu4{l:List D}:zbp [.lst l]=some (.tup l):=(rfl)
@[simp] def zu3{l:List D}:zbp [.tup l]=some (.tup l):=(rfl)
@[simp] def zxq{d:D}:zsI d .non=some (.bl (zci d)):=(rfl)
@[simp] def zvj{d:D}:zg9 d .non=some (.bl (!zci d)):=(rfl)
@[simp] def zvp:zci .non=true:=(rfl)
@[simp] def zvo{i:Int}:zci (.int i)=false:=(rfl)
@[simp] def zvn{l:List D}:zci (.tup l)=false:=(rfl)
@[simp] def zxb{l:List D}{x y:Option Int}:slD (.tup l) x y=some (.tup (znx l x y)):=(rfl)
@[simp] def zxc{l:List D}{x y:Option Int}:slD (.lst l) x y=some (.lst (znx l x y)):=(rfl)
@[simp] def zvk{x y:Bool}:zlO (.bl x) (.bl y)=some (.bl (!decide (x=y))):=(rfl)
@[simp] def zvr{i j:Int}:zt0 [.int i,.int j]=some (.int (if j<i then j else i)):=(rfl)
@[simp] def zsU{n:Nat}:zaN n=decide (n<=100000):=(rfl)
def zbM{α:Type}(xs:List α)(j:Nat):atI xs (j:Int)=xs[j]?:=by
 unfold atI ixN
 by_cases h:j<xs.length
 ·simp [h]
 ·simp [h]
@[simp] def zsR{α:Type}(xs:List α):atI xs 0=xs[0]?:=zbM xs 0
@[simp] def zuO{α:Type}(xs:List α):atI xs 1=xs[1]?:=zbM xs 1
@[simp] def zuN{α:Type}(xs:List α):atI xs 2=xs[2]?:=zbM xs 2
@[simp] def zsi{α:Type}(xs:List α):atI xs 3=xs[3]?:=zbM xs 3
def zfP{α:Type}{xs:List α}{i:Int}(h:0<=i):atI xs i=xs[i.toNat]?:=by
 obtain ⟨n,rfl⟩:=ycz h;exact zbM xs n
end
def zdk{tg:Tg}{body:Fs}{ds:List D}{S:Sto}(Iv:Nat->Env->Prop)(step:∀k d ρ,ds[k]?=some d->Iv k ρ->∃ρ1 ρ2,tg.put ρ d=some ρ1/\body ρ1 S=.nx ρ2 S/\Iv (k+1) ρ2){ρ:Env}(h0:Iv 0 ρ):∃ρ',zeL tg body ds ρ S=.nx ρ' S/\Iv ds.length ρ':=by
 have go:∀(n:Nat) (es:List D) (k:Nat) (ρ:Env),es.length=n->ds.drop k=es->k+n=ds.length->Iv k ρ->∃ρ',zeL tg body es ρ S=.nx ρ' S/\Iv ds.length ρ':=by
  intro n
  induction n with
  | zero =>
   intro es k ρ hl he hk hi;obtain rfl:es=[]:=ybb hl;exact ⟨ρ,rfl,by rw [show ds.length=k by omega];exact hi⟩
  | succ n ih =>
   intro es k ρ hl he hk hi
   cases es with
   | nil=>cases hl
   | cons d es =>
    have hd:ds[k]?=some d:=by
     have:=congrArg (fun l=>l[0]?) he;rw [ybt] at this;simpa using this
    obtain ⟨ρ1,ρ2,e1,e2,hi2⟩:=step k d ρ hd hi;obtain ⟨ρ',e3,e4⟩:=ih es (k+1) ρ2 (by simpa using hl) (by rw [<-List.drop_drop,he];rfl) (by omega) hi2;refine ⟨ρ',?_,e4⟩;unfold zeL;rw [e1];dsimp only;rw [e2];exact e3
 exact go ds.length ds 0 ρ rfl (by simp) (by omega) h0
theorem zcq{tg:Tg}{c elt:Fe}{ρ0:Env}{S:Sto}{g:D->D}{p:D->Bool}:∀{ds:List D},(∀d∈ds,∃ρ1,tg.put ρ0 d=some ρ1/\c ρ1 S=.ok (.bl (p d)) S/\(p d=true->elt ρ1 S=.ok (g d) S))->zbo tg c elt ρ0 ds S=.ok ((ds.filter p).map g) S
 | [],_=>rfl
 | d::ds,h=>by
  obtain ⟨ρ1,e1,e2,e3⟩:=h d yaD;have ih:=zcq (ds:=ds) fun x hx=>h x (yaw _ hx)
  unfold zbo;rw [e1];dsimp only;rw [e2]
  cases hp:p d with
  | true=>simp [e3 hp,ih,hp]
  | false=>simp [ih,hp]
def zaL{tg:Tg}{elt:Fe}{ρ0:Env}{S:Sto}{g:D->D}{ds:List D}(h:∀d∈ds,∃ρ1,tg.put ρ0 d=some ρ1/\elt ρ1 S=.ok (g d) S):zbo tg zd8 elt ρ0 ds S=.ok (ds.map g) S:=by
 have:=zcq (c:=zd8) (p:=fun _=>true) (tg:=tg) (elt:=elt) (ρ0:=ρ0) (S:=S) (g:=g) (ds:=ds) fun d hd=>by
  obtain ⟨ρ1,e1,e2⟩:=h d hd;exact ⟨ρ1,e1,rfl,fun _=>e2⟩
 rw [this,List.filter_eq_self.mpr (fun _ _=>rfl)]
mutual
noncomputable def D.pl:D->Bool
 | .non=>true
 | .int _=>true
 | .str _=>true
 | .tup l=>D.pls l
 | .lst l=>D.pls l
 | _=>false
noncomputable def D.pls:List D->Bool
 | []=>true
 | d::l=>d.pl&&D.pls l
end
theorem D.pls_iff:∀{l:List D},D.pls l=true↔∀d∈l,d.pl=true
 | []=>by simp [D.pls]
 | d::l=>by simp [D.pls,D.pls_iff (l:=l)]
mutual
theorem zh0:∀(d e:D),d.pl=true->e.pl=true->(d.py.eqv e.py=true↔d=e)
 | .non,e,_,h=>by cases e<;>simp [D.py,PyData.eqv,D.pl] at h ⊢
 | .int i,e,_,h=>by cases e<;>simp [D.py,PyData.eqv,D.pl] at h ⊢
 | .str x,e,_,h=>by cases e<;>simp [D.py,PyData.eqv,D.pl] at h ⊢
 | .tup l,e,hd,h=>by
  cases e with
  | tup k =>
   simp only [D.py,PyData.eqv,D.pl] at hd h ⊢;rw [zhk l k hd h];simp
  | _=>simp [D.py,PyData.eqv,D.pl] at h ⊢
 | .lst l,e,hd,h=>by
  cases e with
  | lst k =>
   simp only [D.py,PyData.eqv,D.pl] at hd h ⊢;rw [zhk l k hd h];simp
  | _=>simp [D.py,PyData.eqv,D.pl] at h ⊢
 | .bl _,_,hd,_=>by simp [D.pl] at hd
 | .dic _,_,hd,_=>by simp [D.pl] at hd
 | .ref _,_,hd,_=>by simp [D.pl] at hd
 | .exc _,_,hd,_=>by simp [D.pl] at hd
 | .scr _,_,hd,_=>by simp [D.pl] at hd
theorem zhk:∀(l k:List D),D.pls l=true->D.pls k=true->(PyData.eqvAll (D.pys l) (D.pys k)=true↔l=k)
 | [],[],_,_=>by simp [D.pys,PyData.eqvAll]
 | [],_::_,_,_=>by simp [D.pys,PyData.eqvAll]
 | _::_,[],_,_=>by simp [D.pys,PyData.eqvAll]
 | d::l,e::k,h1,h2=>by
  simp only [D.pls,yab] at h1 h2;simp only [D.pys,PyData.eqvAll,yab,List.cons.injEq];rw [zh0 d e h1.1 h2.1,zhk l k h1.2 h2.2]
end
end S2
namespace S2
open PySem
open L2 hiding D
@[simp] def zo8{n:Nat}{i:Int}:D.fit n (.int i)=true:=by cases n<;>rfl
@[simp] def zuw{n:Nat}:D.fit n .non=true:=by cases n<;>rfl
@[simp] def zuv{n:Nat}{l:List D}:D.fit (n+1) (.tup l)=D.fits n l:=(rfl)
@[simp] def zux{n:Nat}{l:List D}:D.fit (n+1) (.lst l)=D.fits n l:=(rfl)
@[simp] def zsK{n:Nat}:D.fits n []=true:=by cases n<;>rfl
@[simp] def zrX{n:Nat}{d:D}{l:List D}:D.fits n (d::l)=(d.fit n&&D.fits n l):=by cases n<;>rfl
@[simp] def zxu{i j:Int}:eqD (.int i) (.int j)=some (.bl (decide (i=j))):=by
 unfold eqD zeF;simp [D.py,PyData.eqv]
 cases h:(i == j)<;>simp_all
@[simp] def zxj{i j:Int}:neD (.int i) (.int j)=some (.bl (!decide (i=j))):=by
 unfold neD zeF;simp [D.py,PyData.eqv]
 cases h:(i == j)<;>simp_all
def ze3{l:List Int}:eqD (.scr l) (.lst [])=some (.bl (decide (l=[]))):=by
 cases l with
 | nil=>rfl
 | cons a l=>simp [eqD,D.fit,D.fits,zeF,D.py,D.pys,PyData.eqv,PyData.eqvAll]
noncomputable def ziR(l:List Int)(k:Int):Int:=if k<l.length then l.getD k.toNat 0 else if l=[] then 0 else l.getD (k % l.length).toNat 0*31+k
noncomputable def zbB(l:List Int)(k:Int)(many:Int):Int :=
 let d:=(ziR l k+6151*(k+1))*40692 % 2147483399
 (d*d+d / 31) % 2147483629 % many
def zbA(l:List Int)(k:Int){many:Int}(h:0<many):0<=zbB l k many/\zbB l k many<many:=⟨ycA _ (by omega),ycB _ h⟩
@[simp] def zw1:zbK 31=true:=by decide
@[simp] def zsL:zbK 6151=true:=by decide
@[simp] def zrY:zbK 40692=true:=by decide
def znt{i:Int}(h0:-(2 ^ 64)<i)(h:i<2 ^ 64):zbK i=true:=by unfold zbK;simp;omega
def zln{l:List Int}{k:Int}{S:Sto}(hk:0<=k):zbg [.scr l,.int k] S=.ok (.int (ziR l k)) S:=by
 unfold ziR
 by_cases h:k<l.length
 ·have hx:l[k.toNat]?=some l[k.toNat]:=yad (by omega);rw [if_pos h,yai,hx];simp [zbg,za6,zbE,h,zfP hk,hx]
 ·by_cases h0:l=[]
  ·subst h0;simp [zbg,za6,zbE,ze3,show ¬ k<0 by omega]
  ·have hl:0<l.length:=by cases l with | nil=>exact absurd rfl h0 | cons _ _=>simp
   have hm0:0<=k % (l.length:Int):=ycA _ (by omega);have hm1:k % (l.length:Int)<l.length:=ycB _ (by omega);have hx:l[(k % (l.length:Int)).toNat]?=some (l[(k % (l.length:Int)).toNat]'(by omega)):=yad (by omega);rw [if_neg h,if_neg h0,yai,hx];simp [zbg,za6,zbE,h,h0,ze3,zfP hm0,hx,hl]
def zbs{l:List Int}{k many:Int}{S:Sto}(hk:0<=k)(hm:0<many):zar [.scr l,.int k,.int many] S=.ok (.int (zbB l k many)) S:=by
 unfold zbB;have h0:0<=(ziR l k+6151*(k+1))*40692 % 2147483399:=ycA _ (by omega);have h1:(ziR l k+6151*(k+1))*40692 % 2147483399<2147483399:=ycB _ (by omega);have hf:zbK ((ziR l k+6151*(k+1))*40692 % 2147483399)=true:=znt (by omega) (by omega);simp [zar,za6,zcX,zln hk,hf,hm]
noncomputable def zad(t:List Int):D:=.tup (t.map D.int)
def zmf{t u:List Int}:t.map D.int=u.map D.int↔t=u:=by
 constructor
 ·intro h
  induction t generalizing u with
  | nil=>cases u with | nil=>rfl | cons _ _=>cases h
  | cons a t ih=>cases u with
   | nil=>cases h
   | cons b u =>
    simp only [yau,List.cons.injEq,D.int.injEq] at h;rw [h.1,ih h.2]
 ·rintro rfl;rfl
def zlc{t u:List Int}:zad t=zad u↔t=u:=by unfold zad;rw [D.tup.injEq];exact zmf
def zlx{t:List Int}:D.pls (t.map D.int)=true:=by rw [D.pls_iff];intro d hd;obtain ⟨i,_,rfl⟩:=yao.mp hd;rfl
def zjJ{t:List Int}:(zad t).pl=true:=zlx
def zkD{n:Nat}{t:List Int}:D.fits n (t.map D.int)=true:=by rw [D.fits_iff];intro d hd;obtain ⟨i,_,rfl⟩:=yao.mp hd;exact zo8
def zhZ{n:Nat}{t:List Int}:(zad t).fit (n+1)=true:=zkD
theorem zni{d:D}:∀{l:List D},d.pl=true->D.pls l=true->(zhU d l=true↔d∈l)
 | [],_,_=>by simp [zhU]
 | e::l,h,hl=>by
  simp only [D.pls,yab] at hl;have ih:=zni (d:=d) (l:=l) h hl.2;have e1:=zh0 e d hl.1 h;unfold zhU;simp only [ydm,ycw,yat];unfold zhU at ih;rw [ih];unfold zeF;rw [e1]
  constructor<;>(intro z;rcases z with z | z<;>simp [z])
def zgm{t:List Int}{ts:Z2}:zk8 (zad t) (.lst (ts.map zad))=some (.bl (!decide (t∈ts))):=by
 have f1:(zad t).fit 8=true:=zhZ
 have f2:D.fits 8 (ts.map zad)=true:=by rw [D.fits_iff];intro d hd;obtain ⟨i,_,rfl⟩:=yao.mp hd;exact zhZ
 have p2:D.pls (ts.map zad)=true:=by rw [D.pls_iff];intro d hd;obtain ⟨i,_,rfl⟩:=yao.mp hd;exact zjJ
 have m:=zni (d:=zad t) zjJ p2
 have:(zad t∈ts.map zad)↔t∈ts:=by
  rw [yao];constructor
  ·rintro ⟨u,hu,e⟩;rw [<-zlc.mp e];exact hu
  ·intro h;exact ⟨t,h,rfl⟩
 rw [this] at m;unfold zk8;simp only [zjq,f1,f2,Bool.and_self,yb4,Option.some.injEq,D.bl.injEq];congr 1
 by_cases h:t∈ts
 ·rw [m.mpr h];simp [h]
 ·cases hm:zhU (zad t) (ts.map zad)
  ·simp [h]
  ·exact absurd (m.mp hm) h
structure Tiles(most:Int)(ts:Z2):Prop where
 ne:1<=ts.length
 le:(ts.length:Int)<=most
 four:∀t∈ts,t.length=4
 col:∀t∈ts,∀c∈t,0<=c/\c<3
 nd:ts.Nodup
def zbY{hi:Int}{k:Nat}{d:D}(h:(zao 0 hi)[k]?=some d):d=.int k/\(k:Int)<hi:=by
 unfold zao at h;rw [yas] at h
 cases hr:(List.range (hi-0).toNat)[k]? with
 | none=>rw [hr] at h;cases h
 | some j =>
  rw [hr] at h;obtain ⟨h1,h2⟩:=yam.mp hr;simp at h1 h2;subst h2;simp at h;exact ⟨h.symm,by omega⟩
@[simp] def zjE{hi:Int}:(zao 0 hi).length=hi.toNat:=by unfold zao;simp
def zjD{hi:Int}{d:D}(h:d∈zao 0 hi):∃k:Nat,d=.int k/\(k:Int)<hi:=by
 obtain ⟨k,hk⟩:=ybv h;exact ⟨k,zbY hk⟩
end S2
namespace S2
open PySem
open L2 hiding D
def zqL:zao 0 4=[.int 0,.int 1,.int 2,.int 3]:=by rfl
@[simp] def zyK:zbK 4=true:=by decide
@[simp] def zyJ:zbK 7=true:=by decide
def znG{l:List Int}{at' most col k:Int}{S:Sto}{ts:Z2}{y:Option (Bool×D)}(ha:0<=at')(hk:0<=k)(hc:0<col)(hc3:col<=3)(hn:ts.length<=1000) :
  ∃t y',t.length=4/\(∀c∈t,0<=c/\c<3)/\zaX [some (false,.scr l),some (false,.int at'),some (false,.int most),some (false,.int col),some (true,.lst (ts.map zad)),some (false,.int k),y] S
   = .nx [some (false,.scr l),some (false,.int at'),some (false,.int most),some (false,.int col),some (true,.lst ((if t∈ts then ts else ts++[t]).map zad)),some (false,.int k),y'] S:=by
 have hcomp:∀ρ0:Env,ρ0=[none,some (false,.int at'),some (false,.int col),some (false,.int k),some (false,.scr l)]->zbo (.one 0) zd8 (eFn zar [(zak 4),(zaj zcM (zaj zcM (zaj zcM (zap 1) (zaj ziB (zas (.int 4)) (zap 3))) (zas (.int 2))) (zap 0)),(zak 2)]) ρ0 (zao 0 4) S
   = .ok ([zbB l (at'+4*k+2+0) col,zbB l (at'+4*k+2+1) col,zbB l (at'+4*k+2+2) col,zbB l (at'+4*k+2+3) col].map D.int) S:=by
  rintro _ rfl;rw [zqL,zaL (g:=fun d=>match d with | .int i=>.int (zbB l (at'+4*k+2+i) col) | _=>.non)]
  ·rfl
  ·intro d hd;simp only [yat,ya7,ycL] at hd
   rcases hd with rfl | rfl | rfl | rfl<;>exact ⟨_,rfl,by simp;rw [zbs (by omega) hc]⟩
 have b0:=zbA l (at'+4*k+2+0) hc;have b1:=zbA l (at'+4*k+2+1) hc;have b2:=zbA l (at'+4*k+2+2) hc;have b3:=zbA l (at'+4*k+2+3) hc;generalize zbB l (at'+4*k+2+0) col=p0 at *;generalize zbB l (at'+4*k+2+1) col=p1 at *;generalize zbB l (at'+4*k+2+2) col=p2 at *;generalize zbB l (at'+4*k+2+3) col=p3 at *
 have fin:∀t:List Int,(zaz (sFz [] (sIf (zaj zk8 (zap 6) (zap 4)) (zaz (sFz [6] (zll 4 (zak 6))) sNx) sNx)) sNx) [some (false,.scr l),some (false,.int at'),some (false,.int most),some (false,.int col),some (true,.lst (ts.map zad)),some (false,.int k),some (false,zad t)] S
   = .nx [some (false,.scr l),some (false,.int at'),some (false,.int most),some (false,.int col),some (true,.lst ((if t∈ts then ts else ts++[t]).map zad)),some (false,.int k),some (false,zad t)] S:=by
  intro t
  by_cases h:t∈ts
  ·simp [zgm,h]
  ·simp [zgm,h,show ts.length<=100000 by omega]
 by_cases h3:zbB l (at'+60+k) 3=0
 ·refine ⟨[p0,p1,p0,p1],some (false,zad [p0,p1,p0,p1]),rfl,by simp;omega,?_⟩;rw [<-fin];simp [zaX,hcomp,zbs (show 0<=at'+60+k by omega) (show (0:Int)<3 by omega),h3];rfl
 ·refine ⟨[p0,p1,p2,p3],some (false,zad [p0,p1,p2,p3]),rfl,by simp;omega,?_⟩;rw [<-fin];simp [zaX,hcomp,zbs (show 0<=at'+60+k by omega) (show (0:Int)<3 by omega),h3];rfl
def zjz{l:List Int}{at' most:Int}{S:Sto}(ha:0<=at')(hm:0<most)(hm2:most<=100):∃ts,Tiles most ts/\zbJ [.scr l,.int at',.int most] S=.ok (.tup (ts.map zad)) S:=by
 have b:=zbA l at' (many:=2) (by omega);have n:=zbA l (at'+1) hm;have p1:=zbs (l:=l) (S:=S) ha (show (0:Int)<2 by omega);have p2:=zbs (l:=l) (S:=S) (show 0<=at'+1 by omega) hm;generalize zbB l at' 2=c at *;generalize zbB l (at'+1) most=m at *
 obtain ⟨ρ',e,ts,x,y,rfl,h1,h2,h3,h4,h5⟩:=zdk (tg:=.one 5) (body:=zaX) (ds:=zao 0 (1+m)) (S:=S) (fun k ρ=>∃ts x y,ρ=[some (false,.scr l),some (false,.int at'),some (false,.int most),some (false,.int (2+c)),some (true,.lst (ts.map zad)),x,y]/\ts.length<=k/\(0<k->1<=ts.length)/\(∀t∈ts,t.length=4)/\(∀t∈ts,∀c∈t,0<=c/\c<3)/\ts.Nodup) (by
   rintro k d ρ hd ⟨ts,x,y,rfl,h1,h2,h3,h4,h5⟩;obtain ⟨rfl,hk⟩:=zbY hd;obtain ⟨t,y',a1,a2,a3⟩:=znG (l:=l) (at':=at') (most:=most) (col:=2+c) (k:=k) (S:=S) (ts:=ts) (y:=y) ha (by omega) (by omega) (by omega) (by omega);refine ⟨_,_,rfl,a3,_,_,_,rfl,?_,?_,?_,?_,?_⟩
   ·split<;>(try simp)<;>omega
   ·intro _;split
    ·rename_i h;exact List.length_pos_of_mem h
    ·simp
   ·intro u hu;split at hu
    ·exact h3 u hu
    ·rw [ybo,yaJ] at hu
     rcases hu with hu | rfl
     ·exact h3 u hu
     ·exact a1
   ·intro u hu;split at hu
    ·exact h4 u hu
    ·rw [ybo,yaJ] at hu
     rcases hu with hu | rfl
     ·exact h4 u hu
     ·exact a2
   ·split
    ·exact h5
    ·rename_i h;rw [List.nodup_append];refine ⟨h5,by simp,?_⟩
     intro a ha b hb;rw [yaJ] at hb;subst hb;rintro rfl;exact h ha)
  (ρ:=[some (false,.scr l),some (false,.int at'),some (false,.int most),some (false,.int (2+c)),some (true,.lst []),none,none]) ⟨[],none,none,rfl,by simp,by simp,by simp,by simp,by simp⟩
 rw [zjE] at h1 h2;refine ⟨ts,⟨h2 (by omega),by omega,h3,h4,h5⟩,?_⟩;simp [zbJ,za6,zco,p1,p2,show -1000000<=1+m/\1+m<=1000000 by omega,e]
end S2
namespace S2
open PySem
open L2 hiding D
noncomputable def oD:Option Int->D | none=>.non | some i=>.int i
noncomputable def zcP(c:Nat)(g:Nat->Option Int):List D:=(List.range c).map fun j=>oD (g j)
noncomputable def zds(c:Nat)(g:Nat->Option Int):D:=.tup (zcP c g)
noncomputable def zcD(r c:Nat)(g:Z1):List D:=(List.range r).map fun i=>zds c (g i)
noncomputable def flr(r c:Nat)(g:Z1):D:=.tup (zcD r c g)
@[simp] def zfi{c:Nat}{g:Nat->Option Int}:(zcP c g).length=c:=by simp [zcP]
@[simp] def zhY{r c:Nat}{g:Z1}:(zcD r c g).length=r:=by simp [zcD]
def zbH{c j:Nat}{g:Nat->Option Int}(h:j<c):(zcP c g)[j]?=some (oD (g j)):=by simp [zcP,h]
def zd7{r c i:Nat}{g:Z1}(h:i<r):(zcD r c g)[i]?=some (zds c (g i)):=by simp [zcD,h]
@[simp] def ztF{c j:Nat}{g:Nat->Option Int}(h:j<(zcP c g).length):(zcP c g)[j]=oD (g j):=by simp [zcP]
@[simp] def zut{r c i:Nat}{g:Z1}(h:i<(zcD r c g).length):(zcD r c g)[i]=zds c (g i):=by simp [zcD]
def zjC{k:Nat}{g:Nat->Option Int}:zcP (k+1) g=zcP k g++[oD (g k)]:=by simp [zcP,yb9]
def zkC{k c:Nat}{g:Z1}:zcD (k+1) c g=zcD k c g++[zds c (g k)]:=by simp [zcD,yb9]
noncomputable def zk6(l:List Int)(at' n m:Int)(i j:Nat):Option Int:=if zbB l (at'+7*i+j) (n*m)<n then some (zbB l (at'+7*i+j) (n*m)) else none
def zro{l:List Int}{at' n m:Int}{i j:Nat}(h:0<n*m):∀x,zk6 l at' n m i j=some x->0<=x/\x<n:=by
 intro x e;unfold zk6 at e;have:=zbA l (at'+7*i+j) h;split at e
 ·cases e;omega
 ·cases e
def zmo{l:List Int}{at' m:Int}{ts:List D}{r c:Nat}{i:Nat}{S:Sto}{A B Mm:Option (Bool×D)}{y:Option (Bool×D)}{z:Option (Bool×D)}(ha:0<=at')(hp:0<(ts.length:Int)*m)(hm:zbK m=true)(hc:c<=1000) :
  ∃y' z',zeL (.one 9) zaY (zao 0 c) [some (false,.scr l),some (false,.int at'),some (false,.tup ts),A,B,some (false,.int m),Mm,some (false,.int i),some (true,.lst []),y,z] S
   = .nx [some (false,.scr l),some (false,.int at'),some (false,.tup ts),A,B,some (false,.int m),Mm,some (false,.int i),some (true,.lst (zcP c (zk6 l at' ts.length m i))),y',z'] S:=by
 obtain ⟨ρ',e,y',z',rfl⟩:=zdk (tg:=.one 9) (body:=zaY) (ds:=zao 0 c) (S:=S) (fun k ρ=>∃y z,ρ=[some (false,.scr l),some (false,.int at'),some (false,.tup ts),A,B,some (false,.int m),Mm,some (false,.int i),some (true,.lst (zcP k (zk6 l at' ts.length m i))),y,z]) (by
  rintro k d ρ hd ⟨y,z,rfl⟩;obtain ⟨rfl,hk⟩:=zbY hd;have p:=zbs (l:=l) (S:=S) (show 0<=at'+7*(i:Int)+(k:Int) by omega) hp;have pn:=zbA l (at'+7*(i:Int)+(k:Int)) hp;refine ⟨_,_,rfl,?_,some (false,.int k),some (false,.int (zbB l (at'+7*i+k) (ts.length*m))),rfl⟩
  ·rw [zjC]
   by_cases h:zbB l (at'+7*(i:Int)+(k:Int)) (ts.length*m)<ts.length
   ·simp [zaY,p,hm,h,zk6,oD,show k<=100000 by omega]
   ·simp [zaY,p,hm,h,zk6,oD,show k<=100000 by omega])
  (ρ:=[some (false,.scr l),some (false,.int at'),some (false,.tup ts),A,B,some (false,.int m),Mm,some (false,.int i),some (true,.lst []),y,z]) ⟨y,z,rfl⟩
 exact ⟨y',z',by simpa using e⟩
def zjB{l:List Int}{at' m:Int}{ts:List D}{r c:Int}{S:Sto}(ha:0<=at')(hp:0<(ts.length:Int)*m)(hm:zbK m=true)(hr:0<=r)(hr2:r<=1000)(hc:0<=c)(hc2:c<=1000) :
  zbk [.scr l,.int at',.tup ts,.int r,.int c,.int m] S=.ok (flr r.toNat c.toNat (zk6 l at' ts.length m)) S:=by
 obtain ⟨r,rfl⟩:=ycz hr;obtain ⟨c,rfl⟩:=ycz hc
 obtain ⟨ρ',e,x1,x2,x3,x4,rfl⟩:=zdk (tg:=.one 7) (body:=zbV) (ds:=zao 0 r) (S:=S) (fun k ρ=>∃x1 x2 x3 x4,ρ=[some (false,.scr l),some (false,.int at'),some (false,.tup ts),some (false,.int r),some (false,.int c),some (false,.int m),some (true,.lst (zcD k c (zk6 l at' ts.length m))),x1,x2,x3,x4]) (by
  rintro k d ρ hd ⟨x1,x2,x3,x4,rfl⟩;obtain ⟨rfl,hk⟩:=zbY hd;obtain ⟨y',z',e⟩:=zmo (l:=l) (at':=at') (m:=m) (ts:=ts) (r:=r) (c:=c) (i:=k) (S:=S) (A:=some (false,.int r)) (B:=some (false,.int c)) (Mm:=some (true,.lst (zcD k c (zk6 l at' ts.length m)))) (y:=x3) (z:=x4) ha hp hm (by omega);refine ⟨_,_,rfl,?_,some (false,.int k),some (true,.lst (zcP c (zk6 l at' ts.length m k))),y',z',rfl⟩
  ·rw [zkC]
   simp [zbV,e,zds,show -1000000<=(c:Int)/\(c:Int)<=1000000 by omega,show k<=100000 by omega])
  (ρ:=[some (false,.scr l),some (false,.int at'),some (false,.tup ts),some (false,.int r),some (false,.int c),some (false,.int m),some (true,.lst []),none,none,none,none]) ⟨none,none,none,none,rfl⟩
 simp at e;simp [zbk,za6,zcp,e,flr,show -1000000<=(r:Int)/\(r:Int)<=1000000 by omega]
def zlm{l:List Int}{at' most:Int}{ts:Z2}{S:Sto}(ha:0<=at')(ht:Tiles most ts)(hm:most<=100) :
  ∃(r c:Nat) (g:Z1),1<=r/\r<=4/\1<=c/\c<=4/\(∀i j x,g i j=some x->0<=x/\x<ts.length)/\zaJ [.scr l,.int at',.tup (ts.map zad)] S=.ok (flr r c g) S:=by
 have b1:=zbA l at' (many:=4) (by omega);have b2:=zbA l (at'+1) (many:=4) (by omega);have b3:=zbA l (at'+50) (many:=3) (by omega);have p1:=zbs (l:=l) (S:=S) ha (show (0:Int)<4 by omega);have p2:=zbs (l:=l) (S:=S) (show 0<=at'+1 by omega) (show (0:Int)<4 by omega);have p3:=zbs (l:=l) (S:=S) (show 0<=at'+50 by omega) (show (0:Int)<3 by omega);generalize zbB l at' 4=q1 at *;generalize zbB l (at'+1) 4=q2 at *;generalize zbB l (at'+50) 3=q3 at *;have n1:=ht.ne
 have key:∀m:Int,(m=1\/m=2\/m=3)->(∀d,zbk [.scr l,.int (at'+2),.tup (ts.map zad),.int (1+q1),.int (1+q2),.int m] S=.ok d S->zaJ [.scr l,.int at',.tup (ts.map zad)] S=.ok d S)->∃(r c:Nat) (g:Z1),1<=r/\r<=4/\1<=c/\c<=4/\(∀i j x,g i j=some x->0<=x/\x<ts.length)/\zaJ [.scr l,.int at',.tup (ts.map zad)] S=.ok (flr r c g) S:=by
  intro m hm e;have hp:0<((ts.map zad).length:Int)*m:=Int.mul_pos (by simp;omega) (by omega);have e':=e _ (zjB (by omega) hp (znt (by omega) (by omega)) (by omega) (by omega) (by omega) (by omega));refine ⟨_,_,_,?_,?_,?_,?_,?_,e'⟩
  all_goals try omega
  intro i j x h;have:=zro hp x h;simpa using this
 have h3:q3=0\/q3=1\/q3=2:=by omega
 rcases h3 with rfl | rfl | rfl
 ·exact key 1 (by omega) (fun d h=>by simp [zaJ,za6,zbD,p1,p2,p3,h])
 ·exact key 2 (by omega) (fun d h=>by simp [zaJ,za6,zbD,p1,p2,p3,h])
 ·exact key 3 (by omega) (fun d h=>by simp [zaJ,za6,zbD,p1,p2,p3,h])
end S2
namespace S2
open PySem
open L2 hiding D
noncomputable abbrev plD(i j:Nat):D:=.tup [.int i,.int j]
noncomputable def zeg(r c:Nat):List D:=(List.range r).flatMap fun i=>(List.range c).map fun j=>plD i j
def zgd{k c:Nat}:zeg (k+1) c=zeg k c++(List.range c).map fun j=>plD k j:=by simp [zeg,yb9]
def zjI{r c:Nat}{d:D}(h:d∈zeg r c):∃i j,i<r/\j<c/\d=plD i j:=by
 simp only [zeg,ycl,ybK,yao] at h;obtain ⟨i,hi,j,hj,e⟩:=h;exact ⟨i,j,hi,hj,e.symm⟩
def zfl{r c:Nat}:(zeg r c).length=r*c:=by
 induction r with
 | zero=>simp [zeg]
 | succ k ih=>rw [zgd,yav,ih];simp [Nat.succ_mul]
def zhD{r c:Nat}{g:Z1}{S:Sto}(h:1<=r):zce [flr r c g] S=.ok (.tup [.int r,.int c]) S:=by
 have e:=zd7 (c:=c) (g:=g) (i:=0) (r:=r) (by omega);simp [zce,za6,zew,flr,e,zds,show 0<r by omega]
def ziu{r c:Nat}{g:Z1}{S:Sto}(h:1<=r)(hr:r<=100)(hc:c<=100):zb2 [flr r c g] S=.ok (.lst (zeg r c)) S:=by
 have inner:∀(k:Nat) (y:Option (Bool×D)),k<r->∃y',zeL (.one 4) zbw (zao 0 c) [some (false,flr r c g),some (false,.tup [.int r,.int c]),some (true,.lst (zeg k c)),some (false,.int k),y] S
   = .nx [some (false,flr r c g),some (false,.tup [.int r,.int c]),some (true,.lst (zeg (k+1) c)),some (false,.int k),y'] S:=by
  intro k y hk
  obtain ⟨ρ',e,y',rfl⟩:=zdk (tg:=.one 4) (body:=zbw) (ds:=zao 0 c) (S:=S) (fun j ρ=>∃y,ρ=[some (false,flr r c g),some (false,.tup [.int r,.int c]),some (true,.lst (zeg k c++(List.range j).map fun j=>plD k j)),some (false,.int k),y]) (by
   rintro j d ρ hd ⟨y,rfl⟩;obtain ⟨rfl,hj⟩:=zbY hd
   have hl:k*c+j<=100000:=by
    have:k*c<=100*100:=ybY (by omega) (by omega);omega
   refine ⟨_,_,rfl,?_,some (false,.int j),rfl⟩
   simp [zbw,yb9,zfl,hl])
   (ρ:=[some (false,flr r c g),some (false,.tup [.int r,.int c]),some (true,.lst (zeg k c)),some (false,.int k),y]) ⟨y,by simp⟩
  refine ⟨y',?_⟩;rw [e,zgd];simp
 obtain ⟨ρ',e,x,y,rfl⟩:=zdk (tg:=.one 3) (body:=zb8) (ds:=zao 0 r) (S:=S) (fun k ρ=>∃x y,ρ=[some (false,flr r c g),some (false,.tup [.int r,.int c]),some (true,.lst (zeg k c)),x,y]) (by
  rintro k d ρ hd ⟨x,y,rfl⟩;obtain ⟨rfl,hk⟩:=zbY hd;obtain ⟨y',e⟩:=inner k y (by omega);refine ⟨_,_,rfl,?_,some (false,.int k),y',rfl⟩
  simp [zb8,e,show -1000000<=(c:Int)/\(c:Int)<=1000000 by omega])
  (ρ:=[some (false,flr r c g),some (false,.tup [.int r,.int c]),some (true,.lst []),none,none]) ⟨none,none,rfl⟩
 simp at e;simp [zb2,za6,zcV,zhD h,e,show -1000000<=(r:Int)/\(r:Int)<=1000000 by omega]
def zeU{r c i j:Nat}{g:Z1}{S:Sto}(hi:i<r)(hj:j<c):za1 [flr r c g,plD i j] S=.ok (oD (g i j)) S:=by
 simp [za1,za6,zcW,flr,plD,zbM,zd7 hi,zbH hj,zds]
end S2
namespace S2
open PySem
open L2 hiding D
@[simp] def zyL{a b:Option Int}:eqD (oD a) (oD b)=some (.bl (decide (a=b))):=by
 cases a<;>cases b<;>simp [oD]
 ·rfl
 ·rfl
 ·rfl
@[simp] def zvZ{a:Option Int}:zci (oD a)=decide (a=none):=by cases a<;>simp [oD]
noncomputable def zdX(g:Z1):D->Bool | .tup [.int i,.int j]=>(g i.toNat j.toNat).isSome | _=>false
def zhE{r c:Nat}{g:Z1}{S:Sto}(h:1<=r)(hr:r<=100)(hc:c<=100):za8 [flr r c g] S=.ok (.lst ((zeg r c).filter (zdX g))) S:=by
 have hl:((zeg r c).filter (zdX g)).length<=100000:=by
  refine yaq (ybf _ _) ?_;rw [zfl];have:r*c<=100*100:=ybY hr hc;omega
 have e:zbo (.one 0) (zaj zg9 (eFn za1 [(zak 1),(zak 0)]) (zas .non)) (zak 0) [none,some (false,flr r c g)] (zeg r c) S=.ok ((zeg r c).filter (zdX g)) S:=by
  rw [zcq (g:=id) (p:=zdX g)]
  ·simp
  ·intro d hd;obtain ⟨i,j,hi,hj,rfl⟩:=zjI hd;refine ⟨_,rfl,?_,fun _=>by simp⟩;simp [zeU hi hj,zdX]
   cases g i j<;>rfl
 simp [za8,za6,zb6,ziu h hr hc,e,hl]
end S2
namespace S2
open PySem
open L2 hiding D
def zha{d:D}(h:d.pl=true)(f:d.fit 9=true):neD d d=some (.bl false):=by
 unfold neD zeF;rw [f,(zh0 d d h h).mpr rfl];rfl
def zpc{d:D}(h:d.pl=true)(f:d.fit 9=true):eqD d d=some (.bl true):=by
 unfold eqD zeF;rw [f,(zh0 d d h h).mpr rfl];rfl
end S2
namespace S2
open PySem
open L2 hiding D
structure TOk(ts:Z2):Prop where
 four:∀t∈ts,t.length=4
 le:ts.length<=100
noncomputable def zsM(ts:Z2)(n:Int)(s:Nat):Int:=(ts.getD n.toNat []).getD s 0
def zg2{i:Int}{S:Sto}:zbx [.int i] S=.ok (.bl true) S:=by simp [zbx,za6,zcE,zfz]
def zg1{S:Sto}:zbx [.non] S=.ok (.bl false) S:=by simp [zbx,za6,zcE,zfz]
def zeJ{ts:List D}{o:Option Int}{S:Sto}(h:∀x,o=some x->0<=x/\x<ts.length):zbj [.tup ts,oD o] S=.ok (.bl o.isSome) S:=by
 cases o with
 | none=>simp [zbj,za6,zbL,oD,zg1]
 | some x=>obtain ⟨h0,h1⟩:=h x rfl;simp [zbj,za6,zbL,oD,zg2,h0,h1]
noncomputable def hp1:Fe:=zdn leD ltD (zas (.int 0)) (zaj ixD (zap 1) (zas (.int 0))) (zaj ixD (zap 2) (zas (.int 0)))
noncomputable def hp2:Fe:=zdn leD ltD (zas (.int 0)) (zaj ixD (zap 1) (zas (.int 1))) (zaj ixD (zap 2) (zas (.int 1)))
noncomputable def InT(ts:Z2)(g:Z1):Prop:=∀i j x,g i j=some x->0<=x/\x<ts.length
noncomputable def cl2:Option Int->Option Int->Bool | some a,some b=>!decide (a=b) | _,_=>false
end S2
namespace S2
open PySem
open L2 hiding D
end S2
namespace S2
open PySem
open L2 hiding D
end S2
namespace S2
open PySem
open L2 hiding D
noncomputable def unI:D->Int | .int i=>i | _=>0
section
variable{ts:Z2}{c:Nat}{S:Sto}{s1 s3 s4:Option (Bool×D)}
end
end S2
namespace S2
open PySem
open L2 hiding D
end S2
namespace S2
open PySem
open L2 hiding D
def zoi{n:Nat}{f:D->D}:(zao 0 (n:Int)).map f=(List.range n).map fun k:Nat=>f (.int k):=by
 simp [zao,yaT,Function.comp_def]
end S2
namespace S2
open PySem
open L2 hiding D
noncomputable def zcm:Fs :=
  (zaz (sFz [0,0] (zca (zb0 1 (.one 0) (zaD (eFn za8 [(zak 0)])) zd8 (eFn za1 [(zak 1),(zak 0)]) [0])))
  sNx)
noncomputable def za5:List S2.D->Sto->Out S2.D:=zc9 1 true zcm
noncomputable def zfD:Fs :=
  (zaz (sFz [1] (zdU 2 true (eFn za5 [(zak 1)])))
  (zaz (sFz [2] (zca (zb0 1 (.one 0) (zcZ (zaG zeK [(zap 0)])) (zaj zk8 (zap 0) (zap 1)) (zak 0) [2])))
  sNx))
noncomputable def zcx:List S2.D->Sto->Out S2.D:=zc9 3 true zfD
noncomputable def zex:Fs :=
  (zaz (sFz [0,0] (zca (zb0 1 (.one 0) (zaD (eUn zgV (zak 0))) zd8 (zgO [(zak 0),(eMt zdo 1 (zap 0))]) [0])))
  sNx)
noncomputable def zcf:List S2.D->Sto->Out S2.D:=zc9 1 true zex
noncomputable def zhj:Fs :=
  (zaz (sFz [0] (zca (eFn zcf [(eFn za5 [(zak 0)])])))
  sNx)
noncomputable def zdx:List S2.D->Sto->Out S2.D:=zc9 1 true zhj
noncomputable def zbU:Fs :=
  (zaz (sFz [0,3] (sIf (eFn zbj [(zak 0),(zak 3)]) (zaz (sFz [] (zgZ 2 (zaj ixD (zap 0) (zap 3)))) sNx) sNx)) sNx)
noncomputable def zcn:Fs :=
  (zaz (sFz [] (zdU 2 true (ziL [])))
  (zaz (sFz [1] (zgY (.one 3) (zaD (eFn za5 [(zak 1)])) zbU))
  (zaz (sFz [2] (zca (eFn zcf [(zak 2)])))
  sNx)))
noncomputable def zaw:List S2.D->Sto->Out S2.D:=zc9 4 true zcn
end S2
namespace S2
open PySem
open L2 hiding D
noncomputable def zaf(r c:Nat)(g:Z1):List Int:=(List.range r).flatMap fun i=>(List.range c).filterMap fun j=>g i j
noncomputable def atP(g:Z1):D->D | .tup [.int i,.int j]=>oD (g i.toNat j.toNat) | _=>.non
theorem zfs{g:Z1}{i:Nat}:∀js:List Nat,(((js.map fun j=>plD i j).filter (zdX g)).map (atP g))=(js.filterMap fun j=>g i j).map D.int
 | []=>rfl
 | j::js=>by
  rw [yau,ybW,ybc]
  have e:zdX g (plD i j)=(g i j).isSome:=by show (g (i:Int).toNat (j:Int).toNat).isSome=_;rfl
  rw [e]
  cases h:g i j with
  | none=>simp only [Option.isSome,yax,ybm];exact zfs js
  | some x =>
   simp only [Option.isSome,yb4];rw [yau,yau,zfs js,show atP g (plD i j)=oD (g i j) from rfl,h];rfl
def zft{r c:Nat}{g:Z1}:((zeg r c).filter (zdX g)).map (atP g)=(zaf r c g).map D.int:=by
 unfold zeg zaf;rw [List.filter_flatMap,List.map_flatMap,List.map_flatMap];congr 1;funext i;exact zfs _
def zd5{r c:Nat}{g:Z1}(hr:r<=100)(hc:c<=100):(zaf r c g).length<=10000:=by
 have e:=congrArg List.length (zft (r:=r) (c:=c) (g:=g));rw [yaf,yaf] at e;rw [<-e];refine yaq (ybf _ _) ?_;rw [zfl];exact ybY hr hc
def zde{r c:Nat}{g:Z1}{x:Int}:x∈zaf r c g↔∃i j,i<r/\j<c/\g i j=some x:=by
 unfold zaf;simp only [ycl,ybK,yb2];exact ⟨fun ⟨i,hi,j,hj,e⟩=>⟨i,j,hi,hj,e⟩,fun ⟨i,j,hi,hj,e⟩=>⟨i,hi,j,hj,e⟩⟩
def zcO{r c:Nat}{g:Z1}{S:Sto}(h:1<=r)(hr:r<=100)(hc:c<=100):za5 [flr r c g] S=.ok (.lst ((zaf r c g).map D.int)) S:=by
 have e:zbo (.one 0) zd8 (eFn za1 [(zak 1),(zak 0)]) [none,some (false,flr r c g)] ((zeg r c).filter (zdX g)) S=.ok ((zaf r c g).map D.int) S:=by
  rw [zaL (g:=atP g),zft];intro d hd;obtain ⟨i,j,hi,hj,rfl⟩:=zjI ((yb3.mp hd).1);exact ⟨_,rfl,by simp [zeU hi hj,atP]⟩
 have hl:=zd5 (g:=g) hr hc
 have hl2:((zeg r c).filter (zdX g)).length<=100000:=by
  refine yaq (ybf _ _) ?_;rw [zfl];have:r*c<=100*100:=ybY hr hc;omega
 simp [za5,za6,zcm,zhE h hr hc,e,hl2,show (zaf r c g).length<=100000 by omega]
theorem zhg:∀ns:List Int,zbZ (ns.map D.int)=some ns
 | []=>rfl
 | n::ns=>by
  show (zbZ (ns.map D.int)).map _=_;rw [zhg ns];rfl
def zg5{a b:Int}:zeF (.int a) (.int b)=decide (a=b):=by
 by_cases h:a=b<;>simp [zeF,D.py,PyData.eqv,h]
noncomputable def zax(ns:List Int)(k:Int):Nat:=ns.countP fun x=>decide (x=k)
def ziN{ns:List Int}{k:Int}:zdo (ns.map D.int) (.int k)=some (.int (zax ns k:Nat)):=by
 unfold zdo;rw [show (D.int k).fit 8=true from rfl,show D.fits 8 (ns.map D.int)=true by rw [D.fits_iff];intro d hd;obtain ⟨y,_,rfl⟩:=yao.mp hd;rfl];show some (D.int _)=_;rw [List.countP_map];have e:(fun d=>zeF d (.int k))∘D.int=fun x=>decide (x=k):=funext fun t=>zg5
 rw [e];rfl
noncomputable def zcd(ns:List Int):List D:=(ST.zae ns).map fun k=>.tup [.int k,.int (zax ns k:Nat)]
def zji{ns:List Int}(h:∀x∈ns,0<=x/\x<8):zgV (.lst (ns.map D.int))=some (.lst ((ST.zae ns).map D.int)):=by
 show (zbZ (ns.map D.int)).bind _=_;rw [zhg];show (if _ then _ else _)=_;rw [if_pos (ybk.mpr fun x hx=>yaH (h x hx))]
def zec{ns:List Int}{S:Sto}(h:∀x∈ns,0<=x/\x<8):zcf [.lst (ns.map D.int)] S=.ok (.lst (zcd ns)) S:=by
 have e:zbo (.one 0) zd8 (zgO [(zak 0),(eMt zdo 1 (zap 0))]) [none,some (false,.lst (ns.map D.int))] ((ST.zae ns).map D.int) S=.ok (zcd ns) S:=by
  rw [zaL (g:=fun d=>match d with | .int k=>.tup [.int k,.int (zax ns k:Nat)] | _=>.non)]
  ·unfold zcd;rw [yaT];rfl
  ·intro d hd;obtain ⟨k,hk,rfl⟩:=yao.mp hd;exact ⟨_,rfl,by simp [ziN]⟩
 have hl:(ST.zae ns).length<=100000:=yaq ST.zau (by decide)
 have hl2:(zcd ns).length<=100000:=by unfold zcd;rw [yaf];exact hl
 simp [zcf,za6,zex,zji h,e,hl,hl2]
def zeb{r c:Nat}{g:Z1}{S:Sto}(h:1<=r)(hr:r<=100)(hc:c<=100)(hg:∀i j x,g i j=some x->0<=x/\x<8):zdx [flr r c g] S=.ok (.lst (zcd (zaf r c g))) S:=by
 have hl:(zcd (zaf r c g)).length<=100000:=by unfold zcd;rw [yaf];exact yaq ST.zau (by decide)
 simp [zdx,za6,zhj,zcO h hr hc,zec (ns:=zaf r c g) (fun x hx=>by obtain ⟨i,j,_,_,e⟩:=zde.mp hx;exact hg i j x e),hl]
end S2
namespace S2
open PySem
open L2 hiding D
def zlR{ns:List Int}{k:Int}:zk8 (.int k) (.lst (ns.map D.int))=some (.bl (!decide (k∈ns))):=by
 have e:zhU (.int k) (ns.map D.int)=decide (k∈ns):=by
  unfold zhU;rw [List.any_map]
  by_cases h:k∈ns
  ·rw [yaH h,ycP];exact ⟨k,h,by show zeF _ _=true;rw [zg5];simp⟩
  ·rw [yaE h,List.any_eq_false];intro x hx z;have z:zeF (.int x) (.int k)=true:=z;rw [zg5] at z;exact h (yaj z ▸ hx)
 show (if _ then _ else _)=_;rw [show (D.int k).fit 8=true from rfl,show D.fits 8 (ns.map D.int)=true by rw [D.fits_iff];intro d hd;obtain ⟨y,_,rfl⟩:=yao.mp hd;rfl,e];rfl
noncomputable def zhx(n:Nat)(ns:List Int):List Int:=((List.range n).map fun i:Nat=>(i:Int)).filter fun k=>!decide (k∈ns)
def zdw{ts:List D}{r c:Nat}{g:Z1}{S:Sto}(h:1<=r)(hr:r<=100)(hc:c<=100)(hn:ts.length<=100):zcx [.tup ts,flr r c g] S=.ok (.lst ((zhx ts.length (zaf r c g)).map D.int)) S:=by
 have e:zbo (.one 0) (zaj zk8 (zap 0) (zap 1)) (zak 0) [none,some (false,.lst ((zaf r c g).map D.int))] (zao 0 (ts.length:Int)) S=.ok ((zhx ts.length (zaf r c g)).map D.int) S:=by
  have e0:zao 0 (ts.length:Int)=((List.range ts.length).map fun i:Nat=>(i:Int)).map D.int:=by simp [zao]
  rw [e0];rw [zcq (g:=id) (p:=fun d=>match d with | .int k=>!decide (k∈zaf r c g) | _=>false)]
  ·unfold zhx;rw [List.map_id,List.filter_map];rfl
  ·intro d hd;obtain ⟨k,_,rfl⟩:=yao.mp hd;exact ⟨_,rfl,by simp [zlR],fun _=>by simp⟩
 have hl:(zhx ts.length (zaf r c g)).length<=100000:=by
  refine yaq (ybf _ _) ?_;rw [yaf,ycI];omega
 have hl2:(zaf r c g).length<=100000:=by have:=zd5 (g:=g) hr hc;omega
 simp [zcx,za6,zfD,zcO h hr hc,e,hl,hl2,show -1000000<=(ts.length:Int)/\(ts.length:Int)<=1000000 by omega]
end S2
namespace S2
open PySem
open L2 hiding D
noncomputable def zoW(i:Nat)(ρ:Env)(l:List D)(d:D):Out D->Fo
 | .ok (.int n) S2=>(match ixN l.length n with | some k=>.nx (ρ.set i (some (true,.lst (l.set k d)))) S2 | none=>.bad)
 | .ok _ _=>.bad
 | .exc c S2=>.ex c ρ S2 | .bad=>.bad
noncomputable def zl8(i:Nat)(fi:Fe)(ρ:Env)(l:List D):Out D->Fo | .ok d S1=>zoW i ρ l d (fi ρ S1) | .exc c S1=>.ex c ρ S1 | .bad=>.bad
noncomputable def zwN(i:Nat)(fi fe:Fe)(ρ:Env)(S:Sto):Option (Option (Bool×D))->Fo | some (some (true,.lst l))=>zl8 i fi ρ l (fe ρ S) | _=>.bad
noncomputable def zwM(und:Str->Str->Bool)(C:Str)(i j:Nat):Fo->Fo
 | .ex c ρ' S'=>if und c C&&decide (i<ρ'.length) then .nx ((ρ'.set j (some (false,.exc c))).set i none) S' else .bad
 | o=>o
section
variable{ρ:Env}{S:Sto}{f g:Fe}{a:Fs}
@[simp] def zsV{i:Nat}:zjv i f g ρ S=zwN i f g ρ S ρ[i]?:=by
 unfold zjv
 cases ρ[i]? with
 | none=>rfl
 | some o=>cases o with
  | none=>rfl
  | some p =>
   obtain ⟨b,d⟩:=p
   cases b with
   | false=>rfl
   | true=>cases d with
    | lst l =>
     show _=zl8 i f ρ l (g ρ S)
     cases g ρ S with
     | ok d S1 =>
      show _=zoW i ρ l d (f ρ S1);dsimp only
      cases f ρ S1 with
      | ok d' S2=>cases d'<;>rfl
      | exc c S2=>rfl
      | bad=>rfl
     | exc c S1=>rfl
     | bad=>rfl
    | _=>rfl
@[simp] def zx6{i:Nat}{l:List D}:zwN i f g ρ S (some (some (true,.lst l)))=zl8 i f ρ l (g ρ S):=(rfl)
@[simp] def zv5{i:Nat}{l:List D}{d:D}:zl8 i f ρ l (.ok d S)=zoW i ρ l d (f ρ S):=(rfl)
@[simp] def zv4{und:Str->Str->Bool}{C:Str}{i j:Nat}:zwM und C i j (.nx ρ S)=.nx ρ S:=(rfl)
@[simp] def zv3{und:Str->Str->Bool}{C c:Str}{i j:Nat}:zwM und C i j (.ex c ρ S)=if und c C&&decide (i<ρ.length) then .nx ((ρ.set j (some (false,.exc c))).set i none) S else .bad:=(rfl)
@[simp] def zxp{w:Str->Str->Option Bool}{C c:Str}:zyz w C (.exc c)=(w c C).map .bl:=(rfl)
@[simp] def zvm{c:Str}:zci (.exc c)=false:=(rfl)
@[simp] def zvl{l:List D}:zci (.lst l)=false:=(rfl)
@[simp] def zvq{l:List D}{j:Int}:ziA (.lst l) (.int j)=if decide (0<=j/\j<=1000/\l.length<=1000) then some (.lst (List.replicate j.toNat l).flatten) else none:=(rfl)
end
noncomputable abbrev Gf:=Nat->Nat->Option Int
noncomputable def ov(g h:Gf):Gf:=fun i j=>(h i j).or (g i j)
noncomputable def un(g h:Gf):Gf:=fun i j=>if (h i j).isSome then none else g i j
noncomputable def psN(r c:Nat):List (Nat×Nat):=(List.range r).flatMap fun i=>(List.range c).map fun j=>(i,j)
end S2
namespace S2
open PySem
open L2 hiding D
end S2
namespace S2
open PySem
open L2 hiding D
noncomputable def sh1:D->Bool | .non=>true | .bl _=>true | .int _=>true | .str _=>true | .tup _=>true | .lst _=>true | _=>false
noncomputable def sh2:D->Bool | .tup l=>l.all sh1 | d=>sh1 d
end S2
namespace S2
open PySem
open L2 hiding D
noncomputable def zwU(c f:Str):Out D->Out D | .ok d S=>(match zpF c f d S with | some r=>.ok r S | none=>.bad) | .exc c S=>.exc c S | .bad=>.bad
noncomputable def zhV(G:List D->Sto->Out D)(d:D):Out (List D)->Out D | .ok ds S=>G (d::ds) S | .exc c S=>.exc c S | .bad=>.bad
noncomputable def zrI(c m:Str)(G:List D->Sto->Out D)(fs:List Fe)(ρ:Env):Out D->Out D | .ok d S=>if zdh c m d S then zhV G d (zah fs ρ S) else .bad | .exc c S=>.exc c S | .bad=>.bad
noncomputable def zsF(n:Nat):Out D->Out D | .ok r S=>(match r with | .non=>.ok (.ref n) S | _=>.bad) | .exc c S=>.exc c S | .bad=>.bad
noncomputable def kMk(c:Str)(dds:List D)(G:List D->Sto->Out D):Out (List D)->Out D | .ok ds S=>zsF S.length (G (.ref S.length::(ds++dds)) (S++[⟨c,[]⟩])) | .exc c S=>.exc c S | .bad=>.bad
noncomputable def zl9(c f:Str)(dk:D):Out D->Out D | .ok d S=>(match zk7 dk,zh4 c f d S with | some k,some (_,_,ds)=>.ok (.bl (zc0 k ds).isNone) S | _,_=>.bad) | .exc c S=>.exc c S | .bad=>.bad
noncomputable def zwP(c f:Str)(fo:Fe)(ρ:Env):Out D->Out D | .ok d S=>zl9 c f d (fo ρ S) | .exc c S=>.exc c S | .bad=>.bad
noncomputable def zwS(c f:Str)(o:Option NK):Out D->Out D | .ok d S=>(match o,zh4 c f d S with | some k,some (_,_,ds)=>(match zc0 k ds with | some r=>.ok r S | none=>.bad) | _,_=>.bad) | .exc c S=>.exc c S | .bad=>.bad
section
variable{ρ:Env}{S:Sto}{f g h k:Fe}
@[simp] def zvB{c x:Str}:zpg c x f ρ S=zwU c x (f ρ S):=by unfold zpg;cases f ρ S<;>rfl
@[simp] def zyo{c x:Str}{d:D}:zwU c x (.ok d S)=(match zpF c x d S with | some r=>.ok r S | none=>.bad):=(rfl)
@[simp] def zs5{c m:Str}{G:List D->Sto->Out D}{fs:List Fe}:zgy c m G f fs ρ S=zrI c m G fs ρ (f ρ S):=by
 unfold zgy
 cases f ρ S with
 | ok d S1 =>
  show (if zdh c m d S1 then (zah fs ρ S1).bind fun ds S2=>G (d::ds) S2 else .bad)=(if zdh c m d S1 then zhV G d (zah fs ρ S1) else .bad)
  cases zah fs ρ S1<;>rfl
 | exc c S=>rfl
 | bad=>rfl
@[simp] def zwn{c m:Str}{G:List D->Sto->Out D}{fs:List Fe}{d:D}:zrI c m G fs ρ (.ok d S)=if zdh c m d S then zhV G d (zah fs ρ S) else .bad:=(rfl)
@[simp] def zt5{G:List D->Sto->Out D}{d:D}{ds:List D}:zhV G d (.ok ds S)=G (d::ds) S:=(rfl)
@[simp] def zxz{c:Str}{dds:List D}{G:List D->Sto->Out D}{fs:List Fe}:eMk c dds G fs ρ S=kMk c dds G (zah fs ρ S):=by
 unfold eMk
 cases zah fs ρ S with
 | ok ds S1 =>
  show ((G (.ref S1.length::(ds++dds)) (S1++[⟨c,[]⟩])).bind fun r S2=>match r with | .non=>.ok (.ref S1.length) S2 | _=>.bad)=zsF S1.length (G (.ref S1.length::(ds++dds)) (S1++[⟨c,[]⟩]))
  cases G (.ref S1.length::(ds++dds)) (S1++[⟨c,[]⟩])<;>rfl
 | exc c S=>rfl
 | bad=>rfl
@[simp] def zyZ{c:Str}{dds:List D}{G:List D->Sto->Out D}{ds:List D}:kMk c dds G (.ok ds S)=zsF S.length (G (.ref S.length::(ds++dds)) (S++[⟨c,[]⟩])):=(rfl)
@[simp] def zyd{n:Nat}:zsF n (.ok .non S)=.ok (.ref n) S:=(rfl)
@[simp] def zvy{c x:Str}:zpe c x f g ρ S=zwP c x g ρ (f ρ S):=by
 unfold zpe
 cases f ρ S with
 | ok d S1 =>
  show ((g ρ S1).bind fun d' S2=>match zk7 d,zh4 c x d' S2 with | some k,some (_,_,ds)=>.ok (.bl (zc0 k ds).isNone) S2 | _,_=>.bad)=zl9 c x d (g ρ S1)
  cases g ρ S1<;>rfl
 | exc c S=>rfl
 | bad=>rfl
@[simp] def zyb{c x:Str}{d:D}:zwP c x g ρ (.ok d S)=zl9 c x d (g ρ S):=(rfl)
@[simp] def zwm{c x:Str}{dk d:D}:zl9 c x dk (.ok d S)=(match zk7 dk,zh4 c x d S with | some k,some (_,_,ds)=>.ok (.bl (zc0 k ds).isNone) S | _,_=>.bad):=(rfl)
@[simp] def zvA{c x:Str}{i:Nat}:zkF c x f i ρ S=zwS c x (znl ρ i) (f ρ S):=by unfold zkF;cases f ρ S<;>rfl
@[simp] def zyk{c x:Str}{d:D}{o:Option NK}:zwS c x o (.ok d S)=(match o,zh4 c x d S with | some k,some (_,_,ds)=>(match zc0 k ds with | some r=>.ok r S | none=>.bad) | _,_=>.bad):=(rfl)
end
section
variable{S:Sto}{n:Nat}{ts:Z2}{gr:Z4}{r c:Nat}{b:Bool}{ds:List (D×D)}
noncomputable def tl(ts:Z2)(x:Int):D:=.tup [.int (zsM ts x 0),.int (zsM ts x 1),.int (zsM ts x 2),.int (zsM ts x 3)]
noncomputable def sb8:Fe:=eIf (zkG (zpg "Ways" "is_round" (zak 0)) (eUn zlP (zak 4))) (zgy "Ways" "colour_round" zcR (zak 0) [(zak 1),(zak 2),(zak 3)]) (zas .non)
end
end S2
namespace S2
open PySem
open L2 hiding D
section
variable{S:Sto}{n:Nat}{ts:Z2}{gr:Z4}{r c:Nat}{b:Bool}{ds:List (D×D)}
end
end S2
namespace S2
open PySem
open L2 hiding D
noncomputable def zkh(c x:Str)(i:Nat)(ρ:Env)(r:D):Out D->Fo
 | .bad=>.bad
 | .exc c S2=>.ex c ρ S2
 | .ok d S2=>(match znl ρ i,zh4 c x d S2 with
   | some k,some (n,ob,ds)=>if (zc0 k ds).isNone&&decide (ds.length<=1000000)&&zj0 ob then .nx ρ (S2.set n (ob.put x true (.dic (ds++[(nkD k,r)])))) else .bad
   | _,_=>.bad)
noncomputable def zoX(c x:Str)(f:Fe)(i:Nat)(ρ:Env):Out D->Fo
 | .bad=>.bad
 | .exc c S2=>.ex c ρ S2
 | .ok r S1=>zkh c x i ρ r (f ρ S1)
@[simp] def zsY{c x:Str}{f g:Fe}{i:Nat}{ρ:Env}{S:Sto}:zjx c x f i g ρ S=zoX c x f i ρ (g ρ S):=by
 unfold zjx zoX
 cases g ρ S with
 | ok r S1=>dsimp only;unfold zkh;cases f ρ S1<;>rfl
 | exc c S=>rfl
 | bad=>rfl
@[simp] def zwk{c x:Str}{f:Fe}{i:Nat}{ρ:Env}{S:Sto}{r:D}:zoX c x f i ρ (.ok r S)=zkh c x i ρ r (f ρ S):=(rfl)
noncomputable def zlr(q:Nat):Nat->Nat
 | 0=>0
 | m+1=>1+q*zlr q m
section
variable{n:Nat}{ts:Z2}{gr:Z4}{r c:Nat}{b:Bool}
end
end S2
namespace S2
open PySem
open L2 hiding D
noncomputable def zkj(c x:Str)(ρ:Env)(r:D):Out D->Fo
 | .bad=>.bad
 | .exc c S2=>.ex c ρ S2
 | .ok (.ref n) S2=>(match S2[n]? with
   | some ob=>if decide (ob.cls=c)&&decide (ob.fs.length<1000) then .nx ρ (S2.set n (ob.put x false r)) else .bad
   | none=>.bad)
 | .ok _ _=>.bad
noncomputable def zoZ(c x:Str)(f:Fe)(ρ:Env):Out D->Fo
 | .bad=>.bad
 | .exc c S2=>.ex c ρ S2
 | .ok r S1=>zkj c x ρ r (f ρ S1)
@[simp] def zsZ{c x:Str}{f g:Fe}{ρ:Env}{S:Sto}:zjy c x f g ρ S=zoZ c x f ρ (g ρ S):=by
 unfold zjy zoZ
 cases g ρ S with
 | ok r S1 =>
  dsimp only;unfold zkj
  cases f ρ S1 with
  | ok d S2=>cases d<;>rfl
  | exc c S=>rfl
  | bad=>rfl
 | exc c S=>rfl
 | bad=>rfl
@[simp] def zwu{c x:Str}{f:Fe}{ρ:Env}{S:Sto}{r:D}:zoZ c x f ρ (.ok r S)=zkj c x ρ r (f ρ S):=(rfl)
end S2
namespace S2
open PySem
open L2 hiding D
section
variable{w:D}{ts:Z2}{c:Nat}{t:List Int}{n:Int}{S:Sto}{s1 s3 s4 s5 s8 x:Option (Bool×D)}
end
section
variable{ts:Z2}{c:Nat}{S:Sto}{s1 s3 s4:Option (Bool×D)}{o:Option Int}
end
end S2
namespace S2
open PySem
open L2 hiding D
end S2
namespace S2
open PySem
open L2 hiding D
end S2
namespace S2
open PySem
open L2 hiding D
end S2
namespace S2
open PySem
open L2 hiding D
@[simp] def zxr{x y:Bool}:zsJ (.bl x) (.bl y)=some (.bl (decide (x=y))):=(rfl)
noncomputable def znD(q m:Nat):Prop:=zlr q m+m*(zlr q m+q*zlr q m)<=1000000/\q ^ m<=80000
noncomputable instance{q m:Nat}:Decidable (znD q m):=by unfold znD;exact inferInstance
section
variable{ts:Z2}{r c:Nat}{g:Z1}
end
end S2
namespace S2
open PySem
open L2 hiding D
section
variable{ts:Z2}{r c:Nat}{g:Z1}
end
end S2
namespace S2
open PySem
open L2 hiding D
section
variable{ts:Z2}{r c:Nat}{g:Z1}
end
end S2
namespace S2
open PySem
open L2 hiding D
section
variable{n:Nat}{ts:Z2}{gr:Z4}{r c:Nat}{b:Bool}
end
end S2
namespace S2
open PySem
open L2 hiding D
def zlp{L k:Nat}{d:D}(h:(zao 0 (L:Int))[k]?=some d):k<L/\d=.int (k:Int):=by
 unfold zao at h;simp only [Int.sub_zero,ybz] at h;rw [yas] at h
 by_cases hk:k<L
 ·rw [List.getElem?_range hk] at h;refine ⟨hk,?_⟩;have:=(Option.some.inj h).symm;simpa using this
 ·rw [yaQ (by simp;omega)] at h;cases h
section
variable{n:Nat}{ts:Z2}{gr:Z4}{r c:Nat}{b:Bool}
end
end S2
namespace S2
open PySem
open L2 hiding D
section
variable{ts:Z2}{gr:Z4}{c:Nat}
end
end S2
namespace S2
open PySem
open L2 hiding D
section
variable{n:Nat}{ts:Z2}{gr:Z4}{r c:Nat}{b:Bool}{S:Sto}
end
end S2
namespace S2
open PySem
open L2 hiding D
end S2
namespace S2
open PySem
open L2 hiding D
section
variable{ts:Z2}{r c:Nat}{g h:Z1}
end
end S2
namespace S2
open PySem
open L2 hiding D
noncomputable def ltP(p q:Nat×Nat):Prop:=p.1<q.1\/(p.1=q.1/\p.2<q.2)
def zqW{r c:Nat}:(psN r c).Pairwise ltP:=by
 unfold psN;rw [List.pairwise_flatMap];refine ⟨fun i _=>?_,?_⟩
 ·rw [ycf];exact List.Pairwise.imp (fun h=>.inr ⟨rfl,h⟩) List.pairwise_lt_range
 ·refine List.Pairwise.imp (fun {a b} h=>?_) List.pairwise_lt_range;intro x hx y hy;obtain ⟨_,_,rfl⟩:=yao.mp hx;obtain ⟨_,_,rfl⟩:=yao.mp hy;exact .inl h
def zb3{r c:Nat}{p:Nat×Nat}:p∈psN r c↔p.1<r/\p.2<c:=by
 unfold psN;simp only [ycl,ybK,yao];exact ⟨fun ⟨i,hi,j,hj,e⟩=>by rw [<-e];exact ⟨hi,hj⟩,fun ⟨h1,h2⟩=>⟨p.1,h1,p.2,h2,rfl⟩⟩
def zm7{r c:Nat}:(psN r c).Nodup:=List.Pairwise.imp (fun {a b} h e=>by subst e;rcases h with h | ⟨_,h⟩<;>exact ya4 _ h) zqW
def znz{r c:Nat}{g:Z1}{x:Int}:zax (zaf r c g) x=(psN r c).countP fun p=>decide (g p.1 p.2=some x):=by
 unfold zax zaf psN;rw [List.countP_flatMap,List.countP_flatMap];congr 2;funext i;show List.countP _ _=List.countP _ _;rw [List.countP_filterMap,List.countP_map];congr 1;funext j
 cases h:g i j with
 | none=>simp [h]
 | some y=>simp [h]
def zi9{ns ms:List Int}(h:∀x,zax ns x=zax ms x):zcd ns=zcd ms:=by
 have hm:∀(l:List Int) (x:Int),x∈l↔zax l x≠0:=by
  intro l x;unfold zax;rw [Ne,List.countP_eq_zero];constructor
  ·intro hx z;exact z x hx (yaH rfl)
  ·intro z
   by_cases hx:x∈l
   ·exact hx
   ·refine absurd (fun y hy e=>hx ?_) z;have e':y=x:=yaj e;exact e' ▸ hy
 have hc:ST.zae ns=ST.zae ms:=by
  unfold ST.zae;apply ycJ;intro x _;rw [ybX,hm,hm,h]
 unfold zcd;rw [hc];apply yaO;intro k _;rw [h]
end S2
namespace S2
open PySem
open L2 hiding D
section
variable{ts:Z2}{r c:Nat}{g h:Z1}
end
end S2
namespace S2
open PySem
open L2 hiding D
section
variable{ts:Z2}{gr:Z4}{c:Nat}{b:Bool}{ft:List Int->Int->Bool}{SO:List Int->List (Option Int)->Prop}
end
section
variable{ts:Z2}{r c:Nat}{g:Z1}
noncomputable def zda(c:Nat)(b:Int)(j:Nat):Nat:=(((j:Int)-b) % (c:Int)).toNat
noncomputable def zoh{α:Type}(c:Nat)(b:Int)(g:Nat->Nat->α):Nat->Nat->α:=fun i j=>g i (zda c b j)
def zed{b:Int}{j:Nat}(hc:1<=c):zda c b j<c:=by
 unfold zda;have:=ycA ((j:Int)-b) (show (c:Int)≠0 by omega);have:=ycB ((j:Int)-b) (show (0:Int)<c by omega);omega
def zee{b:Int}{j:Nat}(hc:1<=c):((zda c b j:Nat):Int)=((j:Int)-b) % (c:Int):=by
 unfold zda;have:=ycA ((j:Int)-b) (show (c:Int)≠0 by omega);omega
def zf9{b:Int}{j:Nat}(hc:1<=c)(hj:j<c):zda c b (zda c (-b) j)=j:=by
 have h:((zda c b (zda c (-b) j):Nat):Int)=(j:Int):=by
  rw [zee hc,zee hc,Int.emod_sub_emod,show (j:Int) - -b-b=j by omega];exact Int.emod_eq_of_lt (by omega) (by omega)
 omega
def zeI{f:Nat->Option Int}{b:Int}{S:Sto}(hc:1<=c)(hc2:c<=100):zbi [zds c f,.int b] S=.ok (zds c fun j=>f (zda c b j)) S:=by
 have e:=zaL (tg:=.one 0) (elt:=zaj ixD (zap 2) (zaj zj4 (zaj zpC (zap 0) (zap 1)) (zaG zeK [(zap 2)]))) (ρ0:=[none,some (false,.int b),some (false,zds c f)]) (S:=S) (g:=fun d=>match d with | .int j=>oD (f (zda c b j.toNat)) | _=>.non) (ds:=zao 0 (c:Int)) (by
  intro d hd;obtain ⟨k,hk⟩:=ybv hd;obtain ⟨hj,rfl⟩:=zlp hk;refine ⟨_,rfl,?_⟩
  have hix:atI (zcP c f) (((k:Int)-b) % (c:Int))=some (oD (f (zda c b k))):=by
   rw [<-zee hc,zbM,zbH (zed hc)]
  have hcp:(0:Int)<c:=by omega
  have hcN:0<c:=by omega
  simp [zds,hix,hcN])
 rw [zoi] at e
 have e2:((List.range c).map fun k:Nat=>(match D.int (k:Int) with | .int j=>oD (f (zda c b j.toNat)) | _=>.non))=zcP c fun j=>f (zda c b j):=by
  unfold zcP;apply yaO;intro k _;simp
 rw [e2] at e
 have hl:(zcP c fun j=>f (zda c b j)).length<=100000:=by rw [zfi];omega
 have hr:-1000000<=(c:Int)/\(c:Int)<=1000000:=by omega
 have hll:zeK [zds c f]=some (.int (c:Int)):=by unfold zds;rw [zpJ,zfi]
 show _=Out.ok (D.tup (zcP c fun j=>f (zda c b j))) S;generalize zcP c (fun j=>f (zda c b j))=res at *;generalize zds c f=rw' at *;simp [zbi,za6,zcl,hll,hr,e,hl]
def zit{b:Int}{S:Sto}(hr:r<=100)(hc:1<=c)(hc2:c<=100):zd1 [flr r c g,.int b] S=.ok (flr r c (zoh c b g)) S:=by
 have e:=zaL (tg:=.one 0) (elt:=eFn zbi [(zak 0),(zak 1)]) (ρ0:=[none,some (false,.int b)]) (S:=S) (g:=fun d=>match d with | .tup l=>.tup ((List.range c).map fun j=>l.getD (zda c b j) .non) | _=>.non) (ds:=zcD r c g) (by
  intro d hd;obtain ⟨i,hi,rfl⟩:=yao.mp hd;refine ⟨_,rfl,?_⟩;have h:=zeI (f:=g i) (b:=b) (S:=S) hc hc2
  have e3:zds c (fun j=>g i (zda c b j))=.tup ((List.range c).map fun j=>(zcP c (g i)).getD (zda c b j) .non):=by
   unfold zds;congr 1;show (List.range c).map _=_;apply yaO;intro j _;rw [yai,zbH (zed hc)];rfl
  rw [e3] at h;simp [h]
  rfl)
 have e2:(zcD r c g).map (fun d=>match d with | .tup l=>.tup ((List.range c).map fun j=>l.getD (zda c b j) .non) | _=>.non)=zcD r c (zoh c b g):=by
  unfold zcD;rw [yaT];apply yaO;intro i _;show D.tup ((List.range c).map fun j=>(zcP c (g i)).getD (zda c b j) .non)=D.tup (zcP c (fun j=>g i (zda c b j)));congr 1;show _=(List.range c).map _;apply yaO;intro j _;rw [yai,zbH (zed hc)];rfl
 rw [e2] at e
 have hl:(zcD r c (zoh c b g)).length<=100000:=by rw [zhY];omega
 unfold flr;generalize zcD r c (zoh c b g)=res at *;generalize zcD r c g=fl at *;simp [zd1,za6,zfE,e,hl]
end
end S2
namespace S2
open PySem
open L2 hiding D
theorem znh:∀(n:Nat) (ks:List Int),ks.Nodup->(∀k∈ks,0<=k/\k<(n:Int))->ks.length<=n
 | 0,ks,_,h=>by
  cases ks with
  | nil=>exact yah _
  | cons a l=>have:=h a (.head _);omega
 | n+1,ks,nd,h=>by
  have h2:=znh n (ks.erase (n:Int)) (nd.erase _) fun k hk=>by
   obtain ⟨hne,hm⟩:=nd.mem_erase_iff.mp hk;have:=h k hm;omega
  rw [List.length_erase] at h2
  split at h2<;>omega
def zl7{ps:List (Int×Int)}{k v:Int}:(zgN ps k v).map (·.1)=if k∈ps.map (·.1) then ps.map (·.1) else ps.map (·.1)++[k]:=by
 have ha:(ps.any fun p=>decide (p.1=k))=decide (k∈ps.map (·.1)):=by
  rw [yb6,ycP,yay,yao];simp
 unfold zgN;rw [ha]
 by_cases h:k∈ps.map (·.1)
 ·rw [if_pos (yaH h),if_pos h,yaT];apply yaO;intro p _;show (if p.1=k then (p.1,v) else p).1=p.1
  split<;>rfl
 ·rw [if_neg (by simpa using h),if_neg h,ybP];rfl
def zek{ps:List (Int×Int)}{k:Int}:zbu ps k=none↔k ∉ ps.map (·.1):=by
 unfold zbu;rw [Option.map_eq_none_iff,List.find?_eq_none,yao];constructor
 ·rintro h ⟨p,hp,e⟩;exact h p hp (yaH e)
 ·intro h p hp e;exact h ⟨p,hp,yaj e⟩
def zl1{ps:List (Int×Int)}{k v x:Int}:zbu (zgN ps k v) x=if x=k then some v else zbu ps x:=by
 have ha:(ps.any fun p=>decide (p.1=k))=decide (k∈ps.map (·.1)):=by
  rw [yb6,ycP,yay,yao];simp
 unfold zgN;rw [ha]
 by_cases h:k∈ps.map (·.1)
 ·rw [if_pos (yaH h)];unfold zbu;rw [List.find?_map]
  have ec:((fun p:Int×Int=>decide (p.1=x))∘fun p:Int×Int=>if p.1=k then (p.1,v) else p)=fun p=>decide (p.1=x):=by
   funext p;show decide ((if p.1=k then (p.1,v) else p).1=x)=_
   split<;>rfl
  rw [ec]
  cases hf:ps.find? fun p=>decide (p.1=x) with
  | none =>
   have:x ∉ ps.map (·.1):=zek.mp (by unfold zbu;rw [hf];rfl);rw [if_neg (fun z:x=k=>this (by rw [z];exact h))];rfl
  | some p =>
   have hp:p.1=x:=by
    have:=List.find?_some hf;exact yaj this
   show some (if p.1=k then (p.1,v) else p).2=if x=k then some v else some p.2
   by_cases e:x=k
   ·rw [if_pos (hp.trans e),if_pos e]
   ·rw [if_neg (fun z=>e (hp.symm.trans z)),if_neg e]
 ·rw [if_neg (by simpa using h)];unfold zbu;rw [List.find?_append]
  by_cases e:x=k
  ·have hn:=zek.mpr h;unfold zbu at hn;rw [Option.map_eq_none_iff] at hn;rw [e,hn,if_pos rfl];simp
  ·rw [if_neg e]
   have:[(k,v)].find? (fun p:Int×Int=>decide (p.1=x))=none:=by
    rw [List.find?_cons_of_neg (by simpa using fun z=>e z.symm)];rfl
   rw [this,Option.or_none]
noncomputable def cf(N:Int->Nat)(x:Int):Option Int:=if N x=0 then none else some (N x:Int)
structure Bk(ps:List (Int×Int))(N:Int->Nat):Prop where
 nd:(ps.map (·.1)).Nodup
 at':∀x,zbu ps x=cf N x
 sm:∀x,N x≠0->0<=x/\x<5
def Bk.mem{ps:List (Int×Int)}{N:Int->Nat}(b:Bk ps N){x:Int}:x∈ps.map (·.1)↔N x≠0:=by
 have h:=zek (ps:=ps) (k:=x);rw [b.at',cf] at h
 by_cases e:N x=0
 ·rw [if_pos e] at h;exact ⟨fun z=>absurd z (h.mp rfl),fun z=>absurd e z⟩
 ·rw [if_neg e] at h;exact ⟨fun _=>e,fun _=>Classical.byContradiction fun z=>nomatch h.mpr z⟩
def Bk.len{ps:List (Int×Int)}{N:Int->Nat}(b:Bk ps N):ps.length<=5:=by
 have:=znh 5 (ps.map (·.1)) b.nd fun k hk=>b.sm k (b.mem.mp hk)
 rwa [yaf] at this
theorem Bk.nil:Bk [] fun _=>0:=⟨.nil,fun _=>rfl,fun _ h=>absurd rfl h⟩
def Bk.get{ps:List (Int×Int)}{N:Int->Nat}(b:Bk ps N){k:Int}:((zbu ps k).map D.int).getD (.int 0)=.int (N k:Int):=by
 rw [b.at',cf];split
 ·rename_i h;rw [h];rfl
 ·rfl
def Bk.nin{ps:List (Int×Int)}{N:Int->Nat}(b:Bk ps N){k:Int}:(zbu ps k).isNone=decide (N k=0):=by
 rw [b.at',cf];split
 ·rename_i h;rw [yaH h];rfl
 ·rename_i h;rw [yaE h];rfl
def Bk.put{ps:List (Int×Int)}{N:Int->Nat}(b:Bk ps N){k:Int}{m:Nat}(hm:0<m)(hk:0<=k/\k<5):Bk (zgN ps k ((N k:Int)+(m:Int))) fun x=>N x+if x=k then m else 0:=by
 refine ⟨?_,fun x=>?_,fun x hx=>?_⟩
 ·rw [zl7];split
  ·exact b.nd
  ·rename_i h;rw [List.nodup_append];exact ⟨b.nd,by simp,fun a ha c hc=>by rw [yaJ] at hc;subst hc;exact fun z=>h (z ▸ ha)⟩
 ·rw [zl1,b.at',cf,cf]
  by_cases e:x=k
  ·subst e;rw [if_pos rfl,if_pos rfl,if_neg (show ¬ N x+m=0 by omega)];rfl
  ·rw [if_neg e,if_neg e];rfl
 ·by_cases e:x=k
  ·rw [e];exact hk
  ·rw [if_neg e] at hx;exact b.sm x hx
def Bk.congr{ps:List (Int×Int)}{N M:Int->Nat}(b:Bk ps N)(h:∀x,N x=M x):Bk ps M:=by rw [<-funext h];exact b
def zbT{l:List Int}{x:Int}:x∈l↔zax l x≠0:=by
 unfold zax;rw [Ne,List.countP_eq_zero];constructor
 ·intro hx z;exact z x hx (yaH rfl)
 ·intro z
  by_cases hx:x∈l
  ·exact hx
  ·refine absurd (fun y hy e=>hx ?_) z;have e':y=x:=yaj e;exact e' ▸ hy
def ziK{p:Int->Bool}(h5:p 5=false)(h6:p 6=false)(h7:p 7=false):ST.zeN.filter p=(ST.zcU.filter fun n:Nat=>p n).map fun n:Nat=>(n:Int):=by
 have e:ST.zeN=(ST.zcU.map fun n:Nat=>(n:Int))++[5,6,7]:=by decide
 rw [e,List.filter_append,List.filter_map]
 have e2:[5,6,7].filter p=[]:=by rw [ybW,h5,ybW,h6,ybW,h7];rfl
 rw [e2,yaG];rfl
def Bk.srt{ps:List (Int×Int)}{ns:List Int}(b:Bk ps (zax ns)):zpD ps=some (zcd ns):=by
 have hs:∀x∈ns,0<=x/\x<5:=fun x hx=>b.sm x (zbT.mp hx)
 unfold zpD;rw [if_pos]
 ·unfold zcd ST.zae;rw [ziK (yaE fun z=>by have:=hs _ z;omega) (yaE fun z=>by have:=hs _ z;omega) (yaE fun z=>by have:=hs _ z;omega),yaT]
  have ef:(ST.zcU.filter fun n:Nat=>decide ((n:Int)∈ps.map (·.1)))=ST.zcU.filter fun n:Nat=>decide ((n:Int)∈ns):=by
   apply ycJ;intro n _;rw [ybX,b.mem,zbT]
  rw [ef];congr 1;apply yaO;intro n hn;have hm:(n:Int)∈ns:=yaj (yb3.mp hn).2;show prI (n,_)=.tup [.int (n:Int),.int (zax ns n:Nat)];rw [b.at',cf,if_neg (zbT.mp hm)];rfl
 ·rw [yab,yab,ybk];refine ⟨⟨fun p hp=>yaH (b.sm _ (b.mem.mp (yao.mpr ⟨p,hp,rfl⟩))),yaH b.nd⟩,yaH b.len⟩
end S2
namespace S2
open PySem
open L2 hiding D
noncomputable def sm(n:Nat)(f:Nat->Nat):Nat:=((List.range n).map f).sum
@[simp] def zs1{f:Fe}{ρ:Env}{S:Sto}{l:List D}(h:f ρ S=.ok (.tup l) S):zpd f ρ S=.ok l.reverse S:=by
 unfold zpd;simp [h]
def zlo{c:Nat}{g:Nat->Option Int}:(zcP c g).reverse=zcP c fun j=>g (c-1-j):=by
 apply yby;intro i
 by_cases h:i<c
 ·rw [yb8 (by simpa using h),zfi,zbH (by omega),zbH h]
 ·rw [yaQ (by simp;omega),yaQ (by simp;omega)]
def zmn{r c:Nat}{g:Z1}:(zcD r c g).reverse=zcD r c fun i=>g (r-1-i):=by
 apply yby;intro i
 by_cases h:i<r
 ·rw [yb8 (by simpa using h),zhY,zd7 (by omega),zd7 h]
 ·rw [yaQ (by simp;omega),yaQ (by simp;omega)]
def ziv{r c k:Nat}{g:Z1}{S:Sto}(hk:k<c)(hr:r<=1000):zat [flr r c g,.int k] S=.ok (zds r fun j=>g (r-1-j) k) S:=by
 have e:zbo (.one 0) zd8 (zaj ixD (zap 0) (zap 1)) [none,some (false,.int k)] (zcD r c fun i=>g (r-1-i)) S=.ok (zcP r fun j=>g (r-1-j) k) S:=by
  rw [zaL (g:=fun d=>match d with | .tup l=>(l[k]?).getD .non | _=>.non)]
  ·simp only [zcD,zcP,yaT];congr 1;apply yaO;intro i _;simp [zds,zbH hk]
  ·intro d hd;simp only [zcD,yao,ybK] at hd;obtain ⟨i,hi,rfl⟩:=hd;exact ⟨_,rfl,by simp [zds,zbM,zbH hk]⟩
 have hl:r<=100000:=by omega
 have e0:zpd (zak 0) [some (false,flr r c g),some (false,.int k)] S=.ok (zcD r c fun i=>g (r-1-i)) S:=by rw [<-zmn];exact zs1 rfl
 simp [zat,za6,za2,e0,e,hl,zds]
def zeT{r c:Nat}{g:Z1}{S:Sto}(h1:1<=r)(hr:r<=1000)(hc:c<=1000):zaU [flr r c g] S=.ok (flr c r fun i j=>g (r-1-j) i) S:=by
 have e:zbo (.one 0) zd8 (eFn zat [(zak 1),(zak 0)]) [none,some (false,flr r c g)] (zao 0 c) S=.ok (zcD c r fun i j=>g (r-1-j) i) S:=by
  rw [zaL (g:=fun d=>match d with | .int k=>zds r fun j=>g (r-1-j) k.toNat | _=>.non)]
  ·simp [zcD,zao]
  ·intro d hd;obtain ⟨k,rfl,hk⟩:=zjD hd;exact ⟨_,rfl,by simp [ziv (show k<c by omega) hr]⟩
 have hl:c<=100000:=by omega
 simp [zaU,za6,zbQ,zhD h1,e,hl,show -1000000<=(c:Int)/\(c:Int)<=1000000 by omega];rfl
def zdJ{r c:Nat}{g:Z1}{S:Sto}(h1:1<=c)(hr:r<=1000):zaF [flr r c g] S=.ok (flr r c fun i j=>g i (c-1-j)) S:=by
 have e:zbo (.one 0) zd8 (eUn zdv (zak 0)) [none] (zcD r c g) S=.ok (zcD r c fun i j=>g i (c-1-j)) S:=by
  rw [zaL (g:=fun d=>match d with | .tup l=>.tup l.reverse | _=>.non)]
  ·simp only [zcD,yaT];congr 1;apply yaO;intro i _;simp [zds,zlo]
  ·intro d hd;simp only [zcD,yao,ybK] at hd;obtain ⟨i,hi,rfl⟩:=hd;refine ⟨_,rfl,?_⟩
   have:∃x l,zcP c (g i)=x::l:=by
    cases hl:zcP c (g i) with
    | nil=>have:=congrArg List.length hl;simp at this;omega
    | cons x l=>exact ⟨x,l,rfl⟩
   obtain ⟨x,l,hx⟩:=this;simp [zds,hx,zdv]
 have hl:r<=100000:=by omega
 simp [zaF,za6,zbm,flr,e,hl]
noncomputable def zqG(t:List Int):List Int:=[t.getD 3 0,t.getD 0 0,t.getD 1 0,t.getD 2 0]
noncomputable def zru(t:List Int):List Int:=[t.getD 0 0,t.getD 3 0,t.getD 2 0,t.getD 1 0]
def zld{t:List Int}(h:t.length=4):∃a b c d,t=[a,b,c,d]:=by
 match t,h with
 | [a,b,c,d],_=>exact ⟨a,b,c,d,rfl⟩
def zeH{ts:Z2}{S:Sto}(ht:TOk ts):zbI [.tup (ts.map zad)] S=.ok (.tup ((ts.map zqG).map zad)) S:=by
 have e:zbo (.one 0) zd8 (zgO [(zaj ixD (zap 0) (zas (.int 3))),(zaj ixD (zap 0) (zas (.int 0))),(zaj ixD (zap 0) (zas (.int 1))),(zaj ixD (zap 0) (zas (.int 2)))]) [none] (ts.map zad) S=.ok ((ts.map zqG).map zad) S:=by
  rw [zaL (g:=fun d=>match d with | .tup [a,b,c,d]=>.tup [d,a,b,c] | _=>.non)]
  ·rw [yaT,yaT];congr 1;apply yaO;intro t h;obtain ⟨a,b,c,d,rfl⟩:=zld (ht.four t h);rfl
  ·intro d hd;obtain ⟨t,h,rfl⟩:=yao.mp hd;obtain ⟨a,b,c,d,rfl⟩:=zld (ht.four t h);exact ⟨_,rfl,by simp [zad]⟩
 have hl:ts.length<=100000:=by have:=ht.le;omega
 simp only [yaT] at e;simp [zbI,za6,zck,e,hl]
def zdV{ts:Z2}{S:Sto}(ht:TOk ts):zbh [.tup (ts.map zad)] S=.ok (.tup ((ts.map zru).map zad)) S:=by
 have e:zbo (.one 0) zd8 (zgO [(zaj ixD (zap 0) (zas (.int 0))),(zaj ixD (zap 0) (zas (.int 3))),(zaj ixD (zap 0) (zas (.int 2))),(zaj ixD (zap 0) (zas (.int 1)))]) [none] (ts.map zad) S=.ok ((ts.map zru).map zad) S:=by
  rw [zaL (g:=fun d=>match d with | .tup [a,b,c,d]=>.tup [a,d,c,b] | _=>.non)]
  ·rw [yaT,yaT];congr 1;apply yaO;intro t h;obtain ⟨a,b,c,d,rfl⟩:=zld (ht.four t h);rfl
  ·intro d hd;obtain ⟨t,h,rfl⟩:=yao.mp hd;obtain ⟨a,b,c,d,rfl⟩:=zld (ht.four t h);exact ⟨_,rfl,by simp [zad]⟩
 have hl:ts.length<=100000:=by have:=ht.le;omega
 simp only [yaT] at e;simp [zbh,za6,zbR,e,hl]
end S2
namespace S2
open PySem
open L2 hiding D
theorem zgv{tg:Tg}{body:Fs}{S:Sto}{α:Type}(emb:α->D){I:List α->Env->Prop}(L:List α)(step:∀q a r ρ,q++a::r=L->I q ρ->∃ρ1 ρ2,tg.put ρ (emb a)=some ρ1/\body ρ1 S=.nx ρ2 S/\I (q++[a]) ρ2):∀(xs pre:List α) (ρ:Env),pre++xs=L->I pre ρ->∃ρ',zeL tg body (xs.map emb) ρ S=.nx ρ' S/\I L ρ'
 | [],pre,ρ,hL,h=>⟨ρ,by simp [zeL],by rw [<-hL,yaG];exact h⟩
 | a::xs,pre,ρ,hL,h=>by
  obtain ⟨ρ1,ρ2,e1,e2,h2⟩:=step pre a xs ρ hL h;obtain ⟨ρ',e3,h3⟩:=zgv emb L step xs (pre++[a]) ρ2 (by rw [ybN];exact hL) h2;refine ⟨ρ',?_,h3⟩;rw [yau];unfold zeL;rw [e1];dsimp only;rw [e2];exact e3
def zd6{tg:Tg}{body:Fs}{S:Sto}{α:Type}(emb:α->D){I:List α->Env->Prop}(L:List α){ρ:Env}(h0:I [] ρ)(step:∀q a r ρ,q++a::r=L->I q ρ->∃ρ1 ρ2,tg.put ρ (emb a)=some ρ1/\body ρ1 S=.nx ρ2 S/\I (q++[a]) ρ2):∃ρ',zeL tg body (L.map emb) ρ S=.nx ρ' S/\I L ρ':=zgv emb L step L [] ρ rfl h0
noncomputable def zaA(ts:Z2)(ns:List Int):List Int:=ns.flatMap fun n=>ts.getD n.toNat []
structure TCol(ts:Z2):Prop where
 ok:TOk ts
 col:∀t∈ts,∀x∈t,0<=x/\x<5
def TCol.mem{ts:Z2}(h:TCol ts){n:Int}(h0:0<=n)(h1:n<ts.length):ts.getD n.toNat []∈ts:=by
 rw [yai,yad (show n.toNat<ts.length by omega)];exact yba _
def TCol.at{ts:Z2}(h:TCol ts){n:Int}(h0:0<=n)(h1:n<ts.length):atI (ts.map zad) n=some (.tup ((ts.getD n.toNat []).map D.int)):=by
 rw [zfP h0,yas,yai,yad (show n.toNat<ts.length by omega)];rfl
theorem zd9{ts:Z2}(h:TCol ts):∀{ns:List Int},(∀n∈ns,0<=n/\n<ts.length)->(zaA ts ns).length=4*ns.length
 | [],_=>rfl
 | n::ns,hn=>by
  have h4:=h.ok.four _ (h.mem (hn n (.head _)).1 (hn n (.head _)).2);have ih:=zd9 h (ns:=ns) fun m hm=>hn m (.tail _ hm)
  unfold zaA at ih ⊢;rw [ydk,yav,ih,h4,yap];omega
def zkN{ts:Z2}(h:TCol ts){ns:List Int}(hn:∀n∈ns,0<=n/\n<ts.length):∀x∈zaA ts ns,0<=x/\x<5:=by
 intro x hx;obtain ⟨n,hm,hx⟩:=ycl.mp hx;exact h.col _ (h.mem (hn n hm).1 (hn n hm).2) x hx
def zbf{ts:Z2}{r c:Nat}{g:Z1}{S:Sto}(h:TCol ts)(hg:InT ts g)(h1:1<=r)(hr:r<=100)(hc:c<=100):zaw [.tup (ts.map zad),flr r c g] S=.ok (.lst (zcd (zaA ts (zaf r c g)))) S:=by
 have hn:∀n∈zaf r c g,0<=n/\n<ts.length:=fun n hn=>by obtain ⟨i,j,_,_,e⟩:=zde.mp hn;exact hg i j n e
 have hlen:=zd5 (g:=g) hr hc
 obtain ⟨ρ',e,x',rfl⟩:=zd6 (tg:=.one 3) (body:=zbU) (S:=S) D.int (I:=fun q ρ=>∃x,ρ=[some (false,.tup (ts.map zad)),some (false,flr r c g),some (true,.lst ((zaA ts q).map D.int)),x]) (zaf r c g) (ρ:=[some (false,.tup (ts.map zad)),some (false,flr r c g),some (true,.lst []),none]) ⟨none,rfl⟩
  (by
   rintro q n zbt ρ hq ⟨x,rfl⟩;refine ⟨_,_,rfl,?_,some (false,.int n),rfl⟩;have hnn:=hn n (hq ▸ yaF _ (.head _));have hqn:∀m∈q,0<=m/\m<ts.length:=fun m hm=>hn m (hq ▸ ycR _ hm)
   have hl:=zd9 h hqn
   have hlq:q.length<=10000:=by have:=congrArg List.length hq;rw [yav] at this;omega
   have h4:=h.ok.four _ (h.mem hnn.1 hnn.2);have e1:=zeJ (ts:=ts.map zad) (o:=some n) (S:=S) (fun x hx=>by cases hx;rw [yaf];exact hnn);have e2:=h.at hnn.1 hnn.2
   have ec:zaA ts (q++[n])=zaA ts q++ts.getD n.toNat []:=by unfold zaA;rw [yc3];simp
   rw [ec,ybP];simp only [oD,Option.isSome] at e1;generalize ts.getD n.toNat []=t at *;generalize ts.map zad=td at *;generalize flr r c g=F0 at *;generalize zaA ts q=C at *
   have ex:∀ρ:Env,ρ[2]?=some (some (true,.lst (C.map D.int)))->ρ[0]?=some (some (false,.tup td))->ρ[3]?=some (some (false,.int n))->zgZ 2 (zaj ixD (zap 0) (zap 3)) ρ S=.nx (ρ.set 2 (some (true,.lst (C.map D.int++t.map D.int)))) S:=by
    intro ρ h2 h0 h3;exact zrZ h2 (by simp [h0,h3,e2]) (by rw [yaf,yaf];omega)
   simp [zbU,e1,ex])
 have hc5:=zkN h hn;have e5:=zec (ns:=zaA ts (zaf r c g)) (S:=S) (fun x hx=>by have:=hc5 x hx;omega);have e0:=zcO (g:=g) (S:=S) h1 hr hc
 have hll:((zaf r c g).map D.int).length<=100000:=by rw [yaf];omega
 have hcl:((zaA ts (zaf r c g)).map D.int).length<=100000:=by rw [yaf,zd9 h hn];omega
 have htl:(zcd (zaA ts (zaf r c g))).length<=100000:=by unfold zcd;rw [yaf];exact yaq ST.zau (by decide)
 generalize zcd (zaA ts (zaf r c g))=TL at *;generalize (zaA ts (zaf r c g)).map D.int=C at *;generalize (zaf r c g).map D.int=NL at *;generalize flr r c g=F0 at *;generalize ts.map zad=td at *;simp [zaw,za6,zcn,e0,e,e5,hll,hcl,htl]
def zhn{r c r' c':Nat}{g g':Z1}{f h:Nat×Nat->Nat×Nat}(hf:∀p∈psN r' c',f p∈psN r c/\h (f p)=p/\g' p.1 p.2=g (f p).1 (f p).2)(hh:∀p∈psN r c,h p∈psN r' c'/\f (h p)=p){x:Int}:zax (zaf r' c' g') x=zax (zaf r c g) x:=by
 rw [znz,znz]
 have hp:((psN r' c').map f).Perm (psN r c):=by
  refine (List.perm_ext_iff_of_nodup ?_ zm7).mpr fun p=>?_
  ·unfold List.Nodup;rw [ycf];refine ybO (fun {a b} ha hb hne e=>hne ?_) zm7;have:=congrArg h e;rwa [(hf a ha).2.1,(hf b hb).2.1] at this
  ·rw [yao];exact ⟨fun ⟨q,hq,e⟩=>e ▸ (hf q hq).1,fun hm=>⟨h p,(hh p hm).1,(hh p hm).2⟩⟩
 have e:=hp.countP_eq (fun p=>decide (g p.1 p.2=some x));rw [List.countP_map] at e;rw [<-e];apply List.countP_congr;intro p hm;show (decide (g' p.1 p.2=some x)=true)↔(decide (g (f p).1 (f p).2=some x)=true);rw [(hf p hm).2.2]
def zh7{r c:Nat}{g:Z1}{x:Int}:zax (zaf c r fun i j=>g (r-1-j) i) x=zax (zaf r c g) x:=by
 refine zhn (f:=fun p=>(r-1-p.2,p.1)) (h:=fun p=>(p.2,r-1-p.1)) (fun p hp=>?_) (fun p hp=>?_)<;>rw [zb3] at hp
 ·refine ⟨zb3.mpr ⟨by show r-1-p.2<r;omega,hp.1⟩,?_,rfl⟩;show (p.1,r-1-(r-1-p.2))=p;rw [show r-1-(r-1-p.2)=p.2 by omega]
 ·refine ⟨zb3.mpr ⟨hp.2,by show r-1-p.1<r;omega⟩,?_⟩;show (r-1-(r-1-p.1),p.2)=p;rw [show r-1-(r-1-p.1)=p.1 by omega]
def zh9{r c:Nat}{g:Z1}{x:Int}:zax (zaf r c fun i j=>g i (c-1-j)) x=zax (zaf r c g) x:=by
 refine zhn (f:=fun p=>(p.1,c-1-p.2)) (h:=fun p=>(p.1,c-1-p.2)) (fun p hp=>?_) (fun p hp=>?_)<;>rw [zb3] at hp
 ·refine ⟨zb3.mpr ⟨hp.1,by show c-1-p.2<c;omega⟩,?_,rfl⟩;show (p.1,c-1-(c-1-p.2))=p;rw [show c-1-(c-1-p.2)=p.2 by omega]
 ·refine ⟨zb3.mpr ⟨hp.1,by show c-1-p.2<c;omega⟩,?_⟩;show (p.1,c-1-(c-1-p.2))=p;rw [show c-1-(c-1-p.2)=p.2 by omega]
def zmy{r c:Nat}{b:Int}{g:Z1}{x:Int}(hc:1<=c):zax (zaf r c (zoh c b g)) x=zax (zaf r c g) x:=by
 refine zhn (f:=fun p=>(p.1,zda c b p.2)) (h:=fun p=>(p.1,zda c (-b) p.2)) (fun p hp=>?_) (fun p hp=>?_)<;>rw [zb3] at hp
 ·refine ⟨zb3.mpr ⟨hp.1,zed hc⟩,?_,rfl⟩;have:=zf9 (b:=-b) hc hp.2;rw [Int.neg_neg] at this;show (p.1,zda c (-b) (zda c b p.2))=p;rw [this]
 ·refine ⟨zb3.mpr ⟨hp.1,zed hc⟩,?_⟩;show (p.1,zda c b (zda c (-b) p.2))=p;rw [zf9 hc hp.2]
def zpL{n:Nat}{ns ms:List Int}(h:∀x,zax ns x=zax ms x):zhx n ns=zhx n ms:=by
 unfold zhx;apply ycJ;intro k _;congr 1;rw [ybX,zbT,zbT,h]
def zmz{ns ms:List Int}(h:∀x,zax ns x=zax ms x):ns.Perm ms:=by
 rw [List.perm_iff_count];intro a;have:=h a;unfold zax at this
 have e:(fun x:Int=>x == a)=fun x=>decide (x=a):=by funext x;by_cases h:x=a<;>simp [h]
 show List.countP (· == a) ns=List.countP (· == a) ms;rw [e];exact this
def zgB{ts:Z2}{ns ms:List Int}(h:∀x,zax ns x=zax ms x){x:Int}:zax (zaA ts ns) x=zax (zaA ts ms) x:=by
 have hp:=(zmz h).flatMap_right (fun n=>ts.getD n.toNat []);exact hp.countP_eq _
theorem zfJ{ts:Z2}{f:List Int->List Int}(h:TCol ts)(hf:∀t:List Int,t.length=4->∀x,zax (f t) x=zax t x){x:Int}:∀{ns:List Int},(∀n∈ns,0<=n/\n<ts.length)->zax (zaA (ts.map f) ns) x=zax (zaA ts ns) x
 | [],_=>rfl
 | n::ns,hn=>by
  have ih:=zfJ h hf (x:=x) (ns:=ns) fun m hm=>hn m (.tail _ hm)
  obtain ⟨n0,n1⟩:=hn n (.head _);have h4:=h.ok.four _ (h.mem n0 n1)
  have e:(ts.map f).getD n.toNat []=f (ts.getD n.toNat []):=by
   rw [yai,yai,yas,yad (show n.toNat<ts.length by omega)];rfl
  have hx:=hf _ h4 x;unfold zaA zax at ih hx ⊢;rw [ydk,ydk,yde,yde,ih,e,hx]
def zkO{t:List Int}(h:t.length=4)(x:Int):zax (zqG t) x=zax t x:=by
 match t,h with
 | [a,b,c,d],_ =>
  show zax [d,a,b,c] x=_;unfold zax;simp only [ybV,List.countP_nil];omega
def zkP{t:List Int}(h:t.length=4)(x:Int):zax (zru t) x=zax t x:=by
 match t,h with
 | [a,b,c,d],_ =>
  show zax [a,d,c,b] x=_;unfold zax;simp only [ybV,List.countP_nil];omega
def TCol.mapT{ts:Z2}{f:List Int->List Int}(h:TCol ts)(hl:∀t:List Int,t.length=4->(f t).length=4)(hf:∀t:List Int,t.length=4->∀x,zax (f t) x=zax t x):TCol (ts.map f):=by
 refine ⟨⟨fun t ht=>?_,by rw [yaf];exact h.ok.le⟩,fun t ht x hx=>?_⟩
 ·obtain ⟨t',ht',rfl⟩:=yao.mp ht;exact hl _ (h.ok.four _ ht')
 ·obtain ⟨t',ht',rfl⟩:=yao.mp ht;rw [zbT,hf _ (h.ok.four _ ht'),<-zbT] at hx;exact h.col _ ht' x hx
def zim{l:List Int}{f:Int->Nat}{p:Int->Bool}(h:∀x∈l,p x=false->f x=0):((l.filter p).map f).sum=(l.map f).sum:=by
 induction l with
 | nil=>rfl
 | cons a l ih =>
  have ih:=ih fun x hx=>h x (.tail _ hx)
  rw [ybW]
  by_cases e:p a=true
  ·rw [if_pos e,yau,yau,ycC,ycC,ih]
  ·rw [if_neg e,yau,ycC,ih,h a (.head _) (by simpa using e),Nat.zero_add]
theorem zf0:∀{l:List Int},(∀x∈l,0<=x/\x<8)->(ST.zeN.map (zax l)).sum=l.length
 | [],_=>rfl
 | a::l,h=>by
  have ih:=zf0 fun x hx=>h x (.tail _ hx)
  have ha:=h a (.head _)
  have ec:∀k:Int,zax (a::l) k=zax l k+if a=k then 1 else 0:=fun k=>by
   unfold zax;rw [ybV];simp
  unfold ST.zeN at ih ⊢;simp only [yau,List.map_nil,ycC,List.sum_nil] at ih ⊢;rw [ec 0,ec 1,ec 2,ec 3,ec 4,ec 5,ec 6,ec 7,yap]
  have:a=0\/a=1\/a=2\/a=3\/a=4\/a=5\/a=6\/a=7:=by omega
  rcases this with e | e | e | e | e | e | e | e<;>subst e<;>simp<;>omega
def znI{l:List Int}(h:∀x∈l,0<=x/\x<8):((ST.zae l).map (zax l)).sum=l.length:=by
 rw [<-zf0 h];unfold ST.zae;refine zim fun x _ hx=>?_
 have:x ∉ l:=of_decide_eq_false hx;rw [zbT] at this;exact Classical.not_not.mp this
end S2
namespace S2.L81
open PySem
open L2 hiding D
noncomputable def zfO:Fs :=
  (zaz (sFz [7] (zfg 4 (zak 7) (zaj zcM (zeO 4 (zak 7) (zas (.int 0))) (zas (.int 1))))) sNx)
noncomputable def zdF:Fs :=
  (zaz (sFz [] (sIf (zaj zg9 (zap 6) (zas .non)) (zaz (sFz [6] (zfg 3 (zak 6) (zaj zcM (zeO 3 (zak 6) (zas (.int 0))) (zas (.int 1))))) (zaz (sFz [] (zgY (.one 7) (zaD (zaj ixD (zap 1) (zap 6))) zfO)) sNx)) sNx)) sNx)
noncomputable def zfN:Fs :=
  (zaz (sFz [5] (zgY (.one 6) (zaD (zak 5)) zdF)) sNx)
noncomputable def zhq:Fs :=
  (zaz (sFz [8,2,1,8,1,2] (sIf (eOr (zaj neD (eFn zdx [(zak 8)]) (eFn zdx [(zak 2)])) (zaj neD (eFn zcx [(zak 1),(zak 8)]) (eFn zcx [(zak 1),(zak 2)]))) (zaz (sFz [] (zca (zas (.bl false)))) sNx) sNx)) sNx)
noncomputable def zfa:Fs:=zaz (sFz [1,2,1,2] (zca (zaj eqD (eFn zaw [(eFn zbh [(zak 1)]),(eFn zaF [(zak 2)])]) (eFn zaw [(zak 1),(zak 2)])))) sNx
noncomputable def zgQ:Fs:=zaz (sFz [1,2,1,2] (sIf (zaj neD (eFn zaw [(eFn zbI [(zak 1)]),(eFn zaU [(zak 2)])]) (eFn zaw [(zak 1),(zak 2)])) (zaz (sFz [] (zca (zas (.bl false)))) sNx) sNx)) zfa
noncomputable def zgR:Fs:=zaz (sFz [2,2,2] (zgY (.one 8) (zaD (zgO [(eFn zaU [(zak 2)]),(eFn zaF [(zak 2)]),(eFn zd1 [(zak 2),(zas (.int 1))])])) zhq)) zgQ
noncomputable def zgS:Fs:=zaz (sFz [1,2,2] (sIf (zaj neD (zaG zp2 [(zb0 2 (.tup [0,1]) (zaD (eFn zaw [(zak 1),(zak 2)])) zd8 (zak 1) [])]) (zaj ziB (zas (.int 4)) (zaG zeK [(eFn za8 [(zak 2)])]))) (zaz (sFz [] (zca (zas (.bl false)))) sNx) sNx)) zgR
noncomputable def zgT:Fs:=zaz (sFz [1,2,3] (sIf (zaj neD (eFn zcx [(zak 1),(zak 2)]) (zb0 1 (.one 0) (zcZ (zaG zeK [(zap 1)])) (zfG 1 (zak 0)) (zak 0) [3])) (zaz (sFz [] (zca (zas (.bl false)))) sNx) sNx)) zgS
noncomputable def zgU:Fs:=zaz (sFz [2,1,2] (sIf (eOr (zaj neD (eFn zdx [(zak 2)]) (zpf 3)) (zaj neD (eFn zaw [(zak 1),(zak 2)]) (zpf 4))) (zaz (sFz [] (zca (zas (.bl false)))) sNx) sNx)) zgT
noncomputable def zja:Fs:=zaz (sFz [2] (zgY (.one 5) (zaD (zak 2)) zfN)) zgU
noncomputable def zjb:Fs:=zaz (sFz [] (zm0 3 4 true zfH true zfH)) zja
noncomputable def zjc:Fs:=zaz (sFz [0,1] (zdU 2 false (eFn zaJ [(zak 0),(zas (.int 300)),(zak 1)]))) zjb
noncomputable def zjd:Fs:=zaz (sFz [0] (zdU 1 false (eFn zbJ [(zak 0),(zas (.int 200)),(zas (.int 5))]))) zjc
noncomputable def zo9:Fs :=
  zjd
noncomputable def zqM:List S2.D->Sto->Out S2.D:=zc9 9 false zo9
end S2.L81
namespace S2.L81
open PySem
open L2 hiding D
def zh8{l:List Int}{x y:Int}:zax (l++[x]) y=zax l y+if y=x then 1 else 0:=by
 unfold zax;rw [yde,ybV,List.countP_nil];congr 1
 by_cases h:x=y
 ·simp [h]
 ·rw [if_neg (by simpa using h),if_neg (fun z=>h z.symm)]
def zvV{ρ:Env}{S:Sto}{i k:Nat}{x:Int}{ps:List (Int×Int)}{N:Int->Nat}(b:Bk ps N)(hi:ρ[i]?=some (some (true,zaH ps)))(hk:ρ[k]?=some (some (false,.int x))) :
  zfg i (zak k) (zaj zcM (zeO i (zak k) (zas (.int 0))) (zas (.int 1))) ρ S=.nx (ρ.set i (some (true,zaH (zgN ps x ((N x:Int)+1))))) S:=by
 have e1:=zrU (S:=S) (f:=zak k) (g:=zas (.int 0)) (j:=x) (z:=.int 0) (S1:=S) (S2:=S) hi (by simp [hk]) (by simp);rw [b.get] at e1;exact zqQ (S1:=S) hi (by simp [e1]) (by simp [hk]) (yaq b.len (by decide))
variable{r c:Nat}{g:Z1}{ts:Z2}{S:Sto}
def zt3{s0 s1 s2 s3 s5 s6 s7 s8:Option (Bool×D)}{C0 t:List Int}{es:List (Int×Int)}(b:Bk es (zax C0))(ht:∀x∈t,0<=x/\x<5) :
  ∃es' y,Bk es' (zax (C0++t))/\zeL (.one 7) zfO (t.map D.int) [s0,s1,s2,s3,some (true,zaH es),s5,s6,s7,s8] S=.nx [s0,s1,s2,s3,some (true,zaH es'),s5,s6,y,s8] S:=by
 obtain ⟨ρ',e,es',y,b',rfl⟩:=zd6 (tg:=.one 7) (body:=zfO) (S:=S) D.int (I:=fun q ρ=>∃es y,Bk es (zax (C0++q))/\ρ=[s0,s1,s2,s3,some (true,zaH es),s5,s6,y,s8]) t (ρ:=[s0,s1,s2,s3,some (true,zaH es),s5,s6,s7,s8]) ⟨es,s7,by rw [yaG];exact b,rfl⟩
  (by
   rintro q x zbt ρ hq ⟨es,y,b,rfl⟩;have hx:=ht x (hq ▸ yaF _ (.head _));have b2:=(b.put (k:=x) (m:=1) (by decide) hx).congr (M:=zax (C0++(q++[x]))) (fun y=>by rw [<-ybN,zh8]);have ep:=zvV (S:=S) (i:=4) (k:=7) (x:=x) (ρ:=[s0,s1,s2,s3,some (true,zaH es),s5,s6,some (false,.int x),s8]) b rfl rfl;refine ⟨_,_,rfl,?_,_,some (false,.int x),b2,rfl⟩;generalize zaH es=de at *;generalize zaH (zgN es x (((zax (C0++q) x:Nat):Int)+1))=de2 at *
   simp [zfO,ep])
 exact ⟨es',y,b',e⟩
def ztr{s0 s2 s5 s7 s8:Option (Bool×D)}{N0:List Int}{ps es:List (Int×Int)}{n:Int}(h:TCol ts)(h5:(ts.length:Int)<=5)(hn:0<=n/\n<ts.length)(b:Bk ps (zax N0))(b':Bk es (zax (zaA ts N0))) :
  ∃ps' es' y,Bk ps' (zax (N0++[n]))/\Bk es' (zax (zaA ts (N0++[n])))/\zdF [s0,some (false,.tup (ts.map zad)),s2,some (true,zaH ps),some (true,zaH es),s5,some (false,.int n),s7,s8] S
   = .nx [s0,some (false,.tup (ts.map zad)),s2,some (true,zaH ps'),some (true,zaH es'),s5,some (false,.int n),y,s8] S:=by
 have ht:=h.col _ (h.mem hn.1 hn.2);have e2:=h.at hn.1 hn.2;have b2:=(b.put (k:=n) (m:=1) (by decide) (by omega)).congr (M:=zax (N0++[n])) (fun y=>by rw [zh8]);have ep:=zvV (S:=S) (i:=3) (k:=6) (x:=n) (ρ:=[s0,some (false,.tup (ts.map zad)),s2,some (true,zaH ps),some (true,zaH es),s5,some (false,.int n),s7,s8]) b rfl rfl;obtain ⟨es',y,b3,el⟩:=zt3 (s0:=s0) (s1:=some (false,.tup (ts.map zad))) (s2:=s2) (s3:=some (true,zaH (zgN ps n ((zax N0 n:Nat)+(1:Nat))))) (s5:=s5) (s6:=some (false,.int n)) (s7:=s7) (s8:=s8) (t:=ts.getD n.toNat []) (S:=S) b' ht
 have ec:zaA ts (N0++[n])=zaA ts N0++ts.getD n.toNat []:=by unfold zaA;rw [yc3];simp
 refine ⟨_,es',y,b2,by rw [ec];exact b3,?_⟩;generalize ts.getD n.toNat []=t at *;have ep':zfg 3 (zak 6) (zaj zcM (zeO 3 (zak 6) (zas (.int 0))) (zas (.int 1))) [s0,some (false,.tup (ts.map zad)),s2,some (true,zaH ps),some (true,zaH es),s5,some (false,.int n),s7,s8] S=.nx [s0,some (false,.tup (ts.map zad)),s2,some (true,zaH (zgN ps n ((zax N0 n:Nat)+(1:Nat)))),some (true,zaH es),s5,some (false,.int n),s7,s8] S:=ep;clear ep;generalize ts.map zad=td at *;generalize zaH es=de at *;generalize zaH es'=de' at *;generalize zaH ps=dp at *;generalize zaH (zgN ps n ((zax N0 n:Nat)+(1:Nat)))=dp' at *;simp [zdF,ep',e2,el]
def zt2{s0 s2 s5 s6 s7 s8:Option (Bool×D)}{N0:List Int}{ps es:List (Int×Int)}{f:Nat->Option Int}(h:TCol ts)(h5:(ts.length:Int)<=5)(hf:∀j x,f j=some x->0<=x/\x<ts.length)(b:Bk ps (zax N0))(b':Bk es (zax (zaA ts N0))) :
  ∃ps' es' y6 y7,Bk ps' (zax (N0++(List.range c).filterMap f))/\Bk es' (zax (zaA ts (N0++(List.range c).filterMap f)))/\zeL (.one 6) zdF (zcP c f) [s0,some (false,.tup (ts.map zad)),s2,some (true,zaH ps),some (true,zaH es),s5,s6,s7,s8] S
   = .nx [s0,some (false,.tup (ts.map zad)),s2,some (true,zaH ps'),some (true,zaH es'),s5,y6,y7,s8] S:=by
 obtain ⟨ρ',e,ps',es',y6,y7,b1,b2,rfl⟩:=zd6 (tg:=.one 6) (body:=zdF) (S:=S) (fun j=>oD (f j)) (I:=fun q ρ=>∃ps es y6 y7,Bk ps (zax (N0++q.filterMap f))/\Bk es (zax (zaA ts (N0++q.filterMap f)))/\ρ=[s0,some (false,.tup (ts.map zad)),s2,some (true,zaH ps),some (true,zaH es),s5,y6,y7,s8]) (List.range c) (ρ:=[s0,some (false,.tup (ts.map zad)),s2,some (true,zaH ps),some (true,zaH es),s5,s6,s7,s8]) ⟨ps,es,s6,s7,by rw [ycD,yaG];exact b,by rw [ycD,yaG];exact b',rfl⟩
  (by
   rintro q j zbt ρ hq ⟨ps,es,y6,y7,b,b',rfl⟩;rw [List.filterMap_append,<-ybN]
   cases hj:f j with
   | none =>
    rw [ybc,hj];refine ⟨_,_,rfl,?_,ps,es,some (false,.non),y7,by rw [ycD,yaG];exact b,by rw [ycD,yaG];exact b',rfl⟩;generalize zaH ps=dp at *;generalize zaH es=de at *;generalize ts.map zad=td at *;simp [zdF,oD]
   | some n =>
    rw [ybc,hj];obtain ⟨ps',es',y,c1,c2,e⟩:=ztr (s0:=s0) (s2:=s2) (s5:=s5) (s7:=y7) (s8:=s8) (S:=S) h h5 (hf j n hj) b b'
    exact ⟨_,_,rfl,e,ps',es',some (false,.int n),y,c1,c2,rfl⟩)
 exact ⟨ps',es',y6,y7,b1,b2,e⟩
def zt1{s0 s6 s7 s8:Option (Bool×D)}{s5:Option (Bool×D)}(h:TCol ts)(h5:(ts.length:Int)<=5)(hg:InT ts g) :
  ∃ps' es' y5 y6 y7,Bk ps' (zax (zaf r c g))/\Bk es' (zax (zaA ts (zaf r c g)))/\zeL (.one 5) zfN (zcD r c g) [s0,some (false,.tup (ts.map zad)),some (false,flr r c g),some (true,zaH []),some (true,zaH []),s5,s6,s7,s8] S
   = .nx [s0,some (false,.tup (ts.map zad)),some (false,flr r c g),some (true,zaH ps'),some (true,zaH es'),y5,y6,y7,s8] S:=by
 obtain ⟨ρ',e,ps',es',y5,y6,y7,b1,b2,rfl⟩:=zd6 (tg:=.one 5) (body:=zfN) (S:=S) (fun i=>zds c (g i)) (I:=fun q ρ=>∃ps es y5 y6 y7,Bk ps (zax (q.flatMap fun i=>(List.range c).filterMap fun j=>g i j))/\Bk es (zax (zaA ts (q.flatMap fun i=>(List.range c).filterMap fun j=>g i j)))/\ρ=[s0,some (false,.tup (ts.map zad)),some (false,flr r c g),some (true,zaH ps),some (true,zaH es),y5,y6,y7,s8]) (List.range r) (ρ:=[s0,some (false,.tup (ts.map zad)),some (false,flr r c g),some (true,zaH []),some (true,zaH []),s5,s6,s7,s8]) ⟨[],[],s5,s6,s7,Bk.nil,Bk.nil,rfl⟩
  (by
   rintro q i zbt ρ hq ⟨ps,es,y5,y6,y7,b,b',rfl⟩;obtain ⟨ps',es',z6,z7,c1,c2,e⟩:=zt2 (s0:=s0) (s2:=some (false,flr r c g)) (s5:=some (false,zds c (g i))) (s6:=y6) (s7:=y7) (s8:=s8) (c:=c) (S:=S) (f:=g i) h h5 (fun j x=>hg i j x) b b'
   have ef:((q++[i]).flatMap fun i=>(List.range c).filterMap fun j=>g i j)=(q.flatMap fun i=>(List.range c).filterMap fun j=>g i j)++(List.range c).filterMap (g i):=by rw [yc3];simp
   refine ⟨_,_,rfl,?_,ps',es',some (false,zds c (g i)),z6,z7,by rw [ef];exact c1,by rw [ef];exact c2,rfl⟩;generalize hR:zcP c (g i)=R at *
   have hR2:zds c (g i)=.tup R:=by unfold zds;rw [hR]
   rw [hR2] at e ⊢;generalize zaH ps=dp at *;generalize zaH es=de at *;generalize zaH ps'=dp' at *;generalize zaH es'=de' at *;generalize flr r c g=F0 at *;generalize ts.map zad=td at *
   simp [zfN,e])
 exact ⟨ps',es',y5,y6,y7,b1,b2,e⟩
def zhT{ns:List Int}:neD (.lst (zcd ns)) (.lst (zcd ns))=some (.bl false):=by
 refine zha ?_ ?_
 ·show D.pls (zcd ns)=true;rw [D.pls_iff];intro d hd;obtain ⟨k,_,rfl⟩:=yao.mp hd;rfl
 ·show D.fits 8 (zcd ns)=true;rw [D.fits_iff];intro d hd;obtain ⟨k,_,rfl⟩:=yao.mp hd;rfl
def zr0{ns:List Int}:eqD (.lst (zcd ns)) (.lst (zcd ns))=some (.bl true):=by
 refine zpc ?_ ?_
 ·show D.pls (zcd ns)=true;rw [D.pls_iff];intro d hd;obtain ⟨k,_,rfl⟩:=yao.mp hd;rfl
 ·show D.fits 8 (zcd ns)=true;rw [D.fits_iff];intro d hd;obtain ⟨k,_,rfl⟩:=yao.mp hd;rfl
def zj1{ns:List Int}:neD (.lst (ns.map D.int)) (.lst (ns.map D.int))=some (.bl false):=by
 refine zha ?_ ?_
 ·show D.pls (ns.map D.int)=true;rw [D.pls_iff];intro d hd;obtain ⟨k,_,rfl⟩:=yao.mp hd;rfl
 ·show D.fits 8 (ns.map D.int)=true;rw [D.fits_iff];intro d hd;obtain ⟨k,_,rfl⟩:=yao.mp hd;rfl
def zpQ{s0 s3 s4 s5 s6 s7 s8:Option (Bool×D)}(h:TCol ts)(hg:InT ts g)(r1:1<=r)(hr:r<=100)(c1:1<=c)(hc:c<=100) :
  zfa [s0,some (false,.tup (ts.map zad)),some (false,flr r c g),s3,s4,s5,s6,s7,s8] S=.rt (.bl true) S:=by
 have hn:∀n∈zaf r c g,0<=n/\n<ts.length:=fun n hn=>by obtain ⟨i,j,_,_,e⟩:=zde.mp hn;exact hg i j n e
 have hm:TCol (ts.map zru):=h.mapT (fun t _=>rfl) (fun t ht x=>zkP ht x);have e1:=zdV (S:=S) h.ok;have e2:=zdJ (g:=g) (S:=S) c1 (show r<=1000 by omega);have e3:=zbf (g:=fun i j=>g i (c-1-j)) (S:=S) hm (fun i j x e=>by rw [yaf];exact hg _ _ x e) r1 hr hc;have e4:=zbf (S:=S) h hg r1 hr hc;rw [zi9 (ms:=zaA ts (zaf r c g)) (fun x=>(zgB (fun y=>zh9)).trans (zfJ h (fun t ht x=>zkP ht x) hn))] at e3;have e5:=zr0 (ns:=zaA ts (zaf r c g));generalize zcd (zaA ts (zaf r c g))=TL at *;generalize flr r c g=F0 at *;generalize flr r c (fun i j=>g i (c-1-j))=F1 at *;generalize (ts.map zru).map zad=td1 at *;generalize ts.map zad=td at *;simp [zfa,e1,e2,e3,e4,e5]
def ztb{s0 s3 s4 s5 s6 s7 s8:Option (Bool×D)}(h:TCol ts)(hg:InT ts g)(r1:1<=r)(hr:r<=100)(c1:1<=c)(hc:c<=100) :
  zgQ [s0,some (false,.tup (ts.map zad)),some (false,flr r c g),s3,s4,s5,s6,s7,s8] S=.rt (.bl true) S:=by
 have e10:=zpQ (s0:=s0) (s3:=s3) (s4:=s4) (s5:=s5) (s6:=s6) (s7:=s7) (s8:=s8) (S:=S) h hg r1 hr c1 hc
 have hn:∀n∈zaf r c g,0<=n/\n<ts.length:=fun n hn=>by obtain ⟨i,j,_,_,e⟩:=zde.mp hn;exact hg i j n e
 have hm:TCol (ts.map zqG):=h.mapT (fun t _=>rfl) (fun t ht x=>zkO ht x);have e1:=zeH (S:=S) h.ok;have e2:=zeT (g:=g) (S:=S) r1 (show r<=1000 by omega) (show c<=1000 by omega);have e3:=zbf (r:=c) (c:=r) (g:=fun i j=>g (r-1-j) i) (S:=S) hm (fun i j x e=>by rw [yaf];exact hg _ _ x e) c1 hc hr;have e4:=zbf (S:=S) h hg r1 hr hc;rw [zi9 (ms:=zaA ts (zaf r c g)) (fun x=>(zgB (fun y=>zh7)).trans (zfJ h (fun t ht x=>zkO ht x) hn))] at e3;have e5:=zhT (ns:=zaA ts (zaf r c g));generalize zcd (zaA ts (zaf r c g))=TL at *;generalize flr r c g=F0 at *;generalize flr c r (fun i j=>g (r-1-j) i)=F1 at *;generalize (ts.map zqG).map zad=td1 at *;generalize ts.map zad=td at *;simp [zgQ,e1,e2,e3,e4,e5,e10]
def zpo{s0 s3 s4 s5 s6 s7:Option (Bool×D)}{r' c':Nat}{g':Z1}(h8:(ts.length:Int)<=5)(hg:InT ts g)(hg':InT ts g')(r1:1<=r)(hr:r<=100)(hc:c<=100)(r1':1<=r')(hr':r'<=100)(hc':c'<=100)(he:∀x,zax (zaf r' c' g') x=zax (zaf r c g) x) :
  zhq [s0,some (false,.tup (ts.map zad)),some (false,flr r c g),s3,s4,s5,s6,s7,some (false,flr r' c' g')] S=.nx [s0,some (false,.tup (ts.map zad)),some (false,flr r c g),s3,s4,s5,s6,s7,some (false,flr r' c' g')] S:=by
 have e1:=zeb (g:=g) (S:=S) r1 hr hc (fun i j x e=>by have:=hg i j x e;omega);have e2:=zeb (g:=g') (S:=S) r1' hr' hc' (fun i j x e=>by have:=hg' i j x e;omega);have e3:=zdw (ts:=ts.map zad) (g:=g) (S:=S) r1 hr hc (by rw [yaf];omega);have e4:=zdw (ts:=ts.map zad) (g:=g') (S:=S) r1' hr' hc' (by rw [yaf];omega);rw [zi9 he] at e2;rw [zpL he] at e4;have n1:=zhT (ns:=zaf r c g);have n2:=zj1 (ns:=zhx (ts.map zad).length (zaf r c g));generalize zcd (zaf r c g)=TL at *;generalize (zhx (ts.map zad).length (zaf r c g)).map D.int=UL at *;generalize flr r c g=F0 at *;generalize flr r' c' g'=F1 at *;generalize ts.map zad=td at *;simp [zhq,e1,e2,e3,e4,n1,n2]
def ztc{s0 s3 s4 s5 s6 s7 s8:Option (Bool×D)}(h:TCol ts)(h5:(ts.length:Int)<=5)(hg:InT ts g)(r1:1<=r)(hr:r<=100)(c1:1<=c)(hc:c<=100) :
  zgR [s0,some (false,.tup (ts.map zad)),some (false,flr r c g),s3,s4,s5,s6,s7,s8] S=.rt (.bl true) S:=by
 have e9:=fun s8=>ztb (s0:=s0) (s3:=s3) (s4:=s4) (s5:=s5) (s6:=s6) (s7:=s7) (s8:=s8) (S:=S) h hg r1 hr c1 hc
 have e1:=zeT (g:=g) (S:=S) r1 (show r<=1000 by omega) (show c<=1000 by omega);have e2:=zdJ (g:=g) (S:=S) c1 (show r<=1000 by omega);have e3:=zit (g:=g) (b:=1) (S:=S) hr c1 hc;have b1:=zpo (s0:=s0) (s3:=s3) (s4:=s4) (s5:=s5) (s6:=s6) (s7:=s7) (r:=r) (c:=c) (r':=c) (c':=r) (g':=fun i j=>g (r-1-j) i) (S:=S) h5 hg (fun i j x e=>hg _ _ x e) r1 hr hc c1 hc hr (fun x=>zh7);have b2:=zpo (s0:=s0) (s3:=s3) (s4:=s4) (s5:=s5) (s6:=s6) (s7:=s7) (r:=r) (c:=c) (r':=r) (c':=c) (g':=fun i j=>g i (c-1-j)) (S:=S) h5 hg (fun i j x e=>hg _ _ x e) r1 hr hc r1 hr hc (fun x=>zh9);have b3:=zpo (s0:=s0) (s3:=s3) (s4:=s4) (s5:=s5) (s6:=s6) (s7:=s7) (r:=r) (c:=c) (r':=r) (c':=c) (g':=zoh c 1 g) (S:=S) h5 hg (fun i j x e=>hg _ _ x e) r1 hr hc r1 hr hc (fun x=>zmy c1);generalize flr r c g=F0 at *;generalize flr c r (fun i j=>g (r-1-j) i)=F1 at *;generalize flr r c (fun i j=>g i (c-1-j))=F2 at *;generalize flr r c (zoh c 1 g)=F3 at *;generalize ts.map zad=td at *;simp [zgR,e1,e2,e3,zeL,b1,b2,b3,e9]
def zn1{ns:List Int}{S:Sto}(h:∀x∈ns,0<=x/\x<8)(hl:ns.length<=100000):∃L:List D,zbo (.tup [0,1]) zd8 (zak 1) [none,none] (zcd ns) S=.ok L S/\L.length<=100000/\zp2 [.lst L]=some (.int (ns.length:Nat)):=by
 refine ⟨(ST.zae ns).map fun k=>D.int (zax ns k:Nat),?_,?_,?_⟩
 ·rw [zaL (g:=fun d=>match d with | .tup [_,v]=>v | _=>.non)]
  ·unfold zcd;rw [yaT];rfl
  ·intro d hd;obtain ⟨k,_,rfl⟩:=yao.mp hd;exact ⟨_,rfl,by simp⟩
 ·rw [yaf];exact yaq ST.zau (by decide)
 ·have ei:(ST.zae ns).map (fun k=>D.int (zax ns k:Nat))=((ST.zae ns).map fun k=>((zax ns k:Nat):Int)).map D.int:=by rw [yaT];rfl
  have es:∀l:List Int,(l.map fun k=>((zax ns k:Nat):Int)).sum=(((l.map (zax ns)).sum:Nat):Int):=by
   intro l
   induction l with
   | nil=>rfl
   | cons p l ih=>rw [yau,yau,ycC,ycC,ih,Int.natCast_add]
  show (zbZ _).bind _=_;rw [ei,zhg];show (if _ then _ else _)=_;rw [if_pos,es,znI h];rw [yab,yay,ybk];refine ⟨by rw [yaf];exact yaq ST.zau (by decide),?_⟩;intro x hx;obtain ⟨k,_,rfl⟩:=yao.mp hx;have:zax ns k<=ns.length:=List.countP_le_length;rw [yay];omega
def ztd{s0 s3 s4 s5 s6 s7 s8:Option (Bool×D)}(h:TCol ts)(h5:(ts.length:Int)<=5)(hg:InT ts g)(r1:1<=r)(hr:r<=100)(c1:1<=c)(hc:c<=100) :
  zgS [s0,some (false,.tup (ts.map zad)),some (false,flr r c g),s3,s4,s5,s6,s7,s8] S=.rt (.bl true) S:=by
 have e8:=ztc (s0:=s0) (s3:=s3) (s4:=s4) (s5:=s5) (s6:=s6) (s7:=s7) (s8:=s8) (S:=S) h h5 hg r1 hr c1 hc
 have hn:∀n∈zaf r c g,0<=n/\n<ts.length:=fun n hn=>by obtain ⟨i,j,_,_,e⟩:=zde.mp hn;exact hg i j n e
 have hlen:=zd5 (g:=g) hr hc;have hcl:=zd9 h hn;have hci:=zkN h hn;obtain ⟨L,eL,lL,sL⟩:=zn1 (ns:=zaA ts (zaf r c g)) (S:=S) (fun x hx=>by have:=hci x hx;omega) (by omega);rw [hcl] at sL;have e4:=zbf (S:=S) h hg r1 hr hc;have ld:=zhE (g:=g) (S:=S) r1 hr hc
 have el:((zeg r c).filter (zdX g)).length=(zaf r c g).length:=by
  have:=congrArg List.length (zft (r:=r) (c:=c) (g:=g));rwa [yaf,yaf] at this
 have n1:neD (.int ((4*(zaf r c g).length:Nat):Int)) (.int (4*((zaf r c g).length:Int)))=some (.bl false):=by
  rw [show ((4*(zaf r c g).length:Nat):Int)=4*((zaf r c g).length:Int) by omega];exact zha rfl rfl
 have htl:(zcd (zaA ts (zaf r c g))).length<=100000:=by unfold zcd;rw [yaf];exact yaq ST.zau (by decide)
 generalize (zaf r c g).length=M at *;generalize zcd (zaA ts (zaf r c g))=TL at *;generalize (zeg r c).filter (zdX g)=PL at *;generalize flr r c g=F0 at *;generalize ts.map zad=td at *;simp [zgS,e4,eL,lL,sL,ld,el,n1,e8,htl]
def zte{s0 s4 s5 s6 s7 s8:Option (Bool×D)}{ps:List (Int×Int)}(h:TCol ts)(h5:(ts.length:Int)<=5)(hg:InT ts g)(r1:1<=r)(hr:r<=100)(c1:1<=c)(hc:c<=100)(b:Bk ps (zax (zaf r c g))) :
  zgT [s0,some (false,.tup (ts.map zad)),some (false,flr r c g),some (true,zaH ps),s4,s5,s6,s7,s8] S=.rt (.bl true) S:=by
 have e7:=ztd (s0:=s0) (s3:=some (false,zaH ps)) (s4:=s4) (s5:=s5) (s6:=s6) (s7:=s7) (s8:=s8) (S:=S) h h5 hg r1 hr c1 hc;have e3:=zdw (ts:=ts.map zad) (g:=g) (S:=S) r1 hr hc (by rw [yaf];omega)
 have ec:zbo (.one 0) (zfG 1 (zak 0)) (zak 0) [none,some (false,zaH ps)] (zao 0 ((ts.map zad).length:Int)) S=.ok ((zhx (ts.map zad).length (zaf r c g)).map D.int) S:=by
  have e0:zao 0 ((ts.map zad).length:Int)=((List.range (ts.map zad).length).map fun i:Nat=>(i:Int)).map D.int:=by simp [zao]
  rw [e0];rw [zcq (g:=id) (p:=fun d=>match d with | .int k=>!decide (k∈zaf r c g) | _=>false)]
  ·unfold zhx;rw [List.map_id,List.filter_map];rfl
  ·intro d hd;obtain ⟨k,_,rfl⟩:=yao.mp hd;refine ⟨_,rfl,?_,fun _=>by simp⟩;have:=zrr (S:=S) (i:=1) (f:=zak 0) (ρ:=[some (false,.int k),some (false,zaH ps)]) (j:=k) (S1:=S) rfl (by simp);rw [b.nin] at this;rw [show ([none,some (false,zaH ps)]:Env).set 0 (some (false,D.int k))=[some (false,.int k),some (false,zaH ps)] from rfl,this];congr 2;show decide (zax (zaf r c g) k=0)=!decide (k∈zaf r c g)
   by_cases hk:zax (zaf r c g) k=0
   ·rw [yaH hk,yaE (fun z=>zbT.mp z hk)];rfl
   ·rw [yaE hk,yaH (zbT.mpr hk)];rfl
 have hl:((zhx (ts.map zad).length (zaf r c g)).map D.int).length<=100000:=by
  rw [yaf];refine yaq (ybf _ _) ?_;rw [yaf,ycI,yaf];omega
 have n2:=zj1 (ns:=zhx (ts.map zad).length (zaf r c g))
 have hb:-1000000<=((ts.map zad).length:Int)/\((ts.map zad).length:Int)<=1000000:=by rw [yaf];omega
 generalize (zhx (ts.map zad).length (zaf r c g)).map D.int=UL at *;generalize zaH ps=dp at *;generalize flr r c g=F0 at *;generalize ts.map zad=td at *;simp [zgT,e3,ec,hl,n2,hb,e7]
def ztf{s0 s5 s6 s7 s8:Option (Bool×D)}{ps es:List (Int×Int)}(h:TCol ts)(h5:(ts.length:Int)<=5)(hg:InT ts g)(r1:1<=r)(hr:r<=100)(c1:1<=c)(hc:c<=100)(b:Bk ps (zax (zaf r c g)))(b':Bk es (zax (zaA ts (zaf r c g)))) :
  zgU [s0,some (false,.tup (ts.map zad)),some (false,flr r c g),some (true,zaH ps),some (true,zaH es),s5,s6,s7,s8] S=.rt (.bl true) S:=by
 have e6:=zte (s0:=s0) (s4:=some (true,zaH es)) (s5:=s5) (s6:=s6) (s7:=s7) (s8:=s8) (S:=S) h h5 hg r1 hr c1 hc b;have e1:=zeb (g:=g) (S:=S) r1 hr hc (fun i j x e=>by have:=hg i j x e;omega);have e4:=zbf (S:=S) h hg r1 hr hc;have i1:=fun (ρ:Env) (hi:ρ[3]?=some (some (true,zaH ps)))=>zrM (S:=S) hi b.srt
 have i2:=fun (ρ:Env) (hi:ρ[4]?=some (some (true,zaH es)))=>zrM (S:=S) hi b'.srt
 have n1:=zhT (ns:=zaf r c g);have n2:=zhT (ns:=zaA ts (zaf r c g));generalize zcd (zaf r c g)=TL at *;generalize zcd (zaA ts (zaf r c g))=CL at *;generalize zaH ps=dp at *;generalize zaH es=de at *;generalize flr r c g=F0 at *;generalize ts.map zad=td at *;simp [zgU,e1,e4,i1,i2,n1,n2,e6]
def zl4(l:List Int)(hl:l.length<=63):zqM [.scr l] []=.ok (.bl true) []:=by
 obtain ⟨ts,ht,e1⟩:=zjz (l:=l) (at':=200) (most:=5) (S:=[]) (by omega) (by omega) (by omega);obtain ⟨r,c,g,r1,r4,c1,c4,hg,e2⟩:=zlm (l:=l) (at':=300) (S:=[]) (by omega) ht (by omega);have hle:=ht.le;have h:TCol ts:=⟨⟨ht.four,by omega⟩,fun t hm x hx=>by have:=ht.col t hm x hx;omega⟩;obtain ⟨ps,es,y5,y6,y7,b,b',e4⟩:=zt1 (s0:=some (false,.scr l)) (s5:=none) (s6:=none) (s7:=none) (s8:=none) (r:=r) (c:=c) (S:=[]) h hle hg;have e5:=ztf (s0:=some (false,.scr l)) (s5:=y5) (s6:=y6) (s7:=y7) (s8:=none) (S:=[]) h hle hg r1 (show r<=100 by omega) c1 (show c<=100 by omega) b b';generalize hR:zcD r c g=R at *
 have hR2:flr r c g=.tup R:=by unfold flr;rw [hR]
 rw [hR2] at e2 e4 e5;generalize zaH ps=dp at *;generalize zaH es=de at *;generalize ts.map zad=td at *;simp [zqM,za6,zo9,zjd,e1,zjc,e2,zjb,zja,e4,e5]
end S2.L81
namespace M81
open PySem L2 S2 S2.L81
noncomputable def top(i:Nat):Stmt:=PySem.Challenge.pw_floorfits_k81_whole_tallies.main.body.getD i (.Pass ⟨0,0,0,0⟩)
noncomputable def T:Tab:=⟨[("NORTH",.int 0),("EAST",.int 1),("SOUTH",.int 2),("WEST",.int 3)],["isinstance","int","bool","tuple","len","range","sum","reversed","sorted","set"],[],[],[],[],[],["_law_book","_law_edges"]⟩
noncomputable def F0:Fn3:=⟨"",[],[],[]⟩
noncomputable def F1:Fn3:=F0.fn "is_whole" ⟨1,false,zbx⟩
def d1:zaC (Gn T F0) false ["thing"] (top 5)=some zcE:=by rfl
def s1:FnScope ["thing"] ["thing"] (zac (top 5)):=⟨rfl,rfl,rfl,by decide +kernel,rfl,by decide +kernel,by decide +kernel⟩
noncomputable def F2:Fn3:=F1.fn "has_number" ⟨2,false,zbj⟩
def d2:zaC (Gn T F1) false ["tiles","thing"] (top 6)=some zbL:=by rfl
def s2:FnScope ["tiles","thing"] ["tiles","thing"] (zac (top 6)):=⟨rfl,rfl,rfl,by decide +kernel,rfl,by decide +kernel,by decide +kernel⟩
noncomputable def F3:Fn3:=F2.fn "size_of" ⟨1,false,zce⟩
def d3:zaC (Gn T F2) false ["floor","columns"] (top 7)=some zew:=by rfl
def s3:FnScope ["floor","columns"] ["floor"] (zac (top 7)):=⟨rfl,rfl,rfl,by decide +kernel,rfl,by decide +kernel,by decide +kernel⟩
noncomputable def F4:Fn3:=F3.fn "places_of" ⟨1,true,zb2⟩
def d4:zaC (Gn T F3) true ["floor","size","places","row","column"] (top 8)=some zcV:=by rfl
def s4:FnScope ["floor","size","places","row","column"] ["floor"] (zac (top 8)):=⟨rfl,rfl,rfl,by decide +kernel,rfl,by decide +kernel,by decide +kernel⟩
noncomputable def F5:Fn3:=F4.fn "number_at" ⟨2,false,za1⟩
def d5:zaC (Gn T F4) false ["floor","place"] (top 9)=some zcW:=by rfl
def s5:FnScope ["floor","place"] ["floor","place"] (zac (top 9)):=⟨rfl,rfl,rfl,by decide +kernel,rfl,by decide +kernel,by decide +kernel⟩
noncomputable def F6:Fn3:=F5.fn "laid_places" ⟨1,true,za8⟩
def d6:zaC (Gn T F5) true ["floor"] (top 10)=some zb6:=by rfl
def s6:FnScope ["floor"] ["floor"] (zac (top 10)):=⟨rfl,rfl,rfl,by decide +kernel,rfl,by decide +kernel,by decide +kernel⟩
noncomputable def F7:Fn3:=F6.fn "numbers_on" ⟨1,true,za5⟩
def d7:zaC (Gn T F6) true ["floor"] (top 11)=some zcm:=by rfl
def s7:FnScope ["floor"] ["floor"] (zac (top 11)):=⟨rfl,rfl,rfl,by decide +kernel,rfl,by decide +kernel,by decide +kernel⟩
noncomputable def F8:Fn3:=F7.fn "turned_set" ⟨1,false,zbI⟩
def d8:zaC (Gn T F7) false ["tiles"] (top 13)=some zck:=by rfl
def s8:FnScope ["tiles"] ["tiles"] (zac (top 13)):=⟨rfl,rfl,rfl,by decide +kernel,rfl,by decide +kernel,by decide +kernel⟩
noncomputable def F9:Fn3:=F8.fn "column_from_south" ⟨2,false,zat⟩
def d9:zaC (Gn T F8) false ["floor","column"] (top 14)=some za2:=by rfl
def s9:FnScope ["floor","column"] ["floor","column"] (zac (top 14)):=⟨rfl,rfl,rfl,by decide +kernel,rfl,by decide +kernel,by decide +kernel⟩
noncomputable def F10:Fn3:=F9.fn "turned_floor" ⟨1,false,zaU⟩
def d10:zaC (Gn T F9) false ["floor"] (top 15)=some zbQ:=by rfl
def s10:FnScope ["floor"] ["floor"] (zac (top 15)):=⟨rfl,rfl,rfl,by decide +kernel,rfl,by decide +kernel,by decide +kernel⟩
noncomputable def F11:Fn3:=F10.fn "mirrored_set" ⟨1,false,zbh⟩
def d11:zaC (Gn T F10) false ["tiles"] (top 16)=some zbR:=by rfl
def s11:FnScope ["tiles"] ["tiles"] (zac (top 16)):=⟨rfl,rfl,rfl,by decide +kernel,rfl,by decide +kernel,by decide +kernel⟩
noncomputable def F12:Fn3:=F11.fn "mirrored_floor" ⟨1,false,zaF⟩
def d12:zaC (Gn T F11) false ["floor"] (top 17)=some zbm:=by rfl
def s12:FnScope ["floor"] ["floor"] (zac (top 17)):=⟨rfl,rfl,rfl,by decide +kernel,rfl,by decide +kernel,by decide +kernel⟩
noncomputable def F13:Fn3:=F12.fn "rolled_row" ⟨2,false,zbi⟩
def d13:zaC (Gn T F12) false ["row","by"] (top 18)=some zcl:=by rfl
def s13:FnScope ["row","by"] ["row","by"] (zac (top 18)):=⟨rfl,rfl,rfl,by decide +kernel,rfl,by decide +kernel,by decide +kernel⟩
noncomputable def F14:Fn3:=F13.fn "rolled" ⟨2,false,zd1⟩
def d14:zaC (Gn T F13) false ["floor","by"] (top 19)=some zfE:=by rfl
def s14:FnScope ["floor","by"] ["floor","by"] (zac (top 19)):=⟨rfl,rfl,rfl,by decide +kernel,rfl,by decide +kernel,by decide +kernel⟩
noncomputable def F15:Fn3:=F14.fn "counted" ⟨1,true,zcf⟩
def d15:zaC (Gn T F14) true ["things"] (top 21)=some zex:=by rfl
def s15:FnScope ["things"] ["things"] (zac (top 21)):=⟨rfl,rfl,rfl,by decide +kernel,rfl,by decide +kernel,by decide +kernel⟩
noncomputable def F16:Fn3:=F15.fn "tally" ⟨1,true,zdx⟩
def d16:zaC (Gn T F15) true ["floor"] (top 22)=some zhj:=by rfl
def s16:FnScope ["floor"] ["floor"] (zac (top 22)):=⟨rfl,rfl,rfl,by decide +kernel,rfl,by decide +kernel,by decide +kernel⟩
noncomputable def F17:Fn3:=F16.fn "colours_on" ⟨2,true,zaw⟩
def d17:zaC (Gn T F16) true ["tiles","floor","colours","number"] (top 23)=some zcn:=by rfl
def s17:FnScope ["tiles","floor","colours","number"] ["tiles","floor"] (zac (top 23)):=⟨rfl,rfl,rfl,by decide +kernel,rfl,by decide +kernel,by decide +kernel⟩
noncomputable def F18:Fn3:=F17.fn "unused" ⟨2,true,zcx⟩
def d18:zaC (Gn T F17) true ["tiles","floor","standing"] (top 25)=some zfD:=by rfl
def s18:FnScope ["tiles","floor","standing"] ["tiles","floor"] (zac (top 25)):=⟨rfl,rfl,rfl,by decide +kernel,rfl,by decide +kernel,by decide +kernel⟩
noncomputable def F19:Fn3:=F18.fn "_law_cell" ⟨2,false,zbg⟩
def d19:zaC (Gn T F18) false ["_law_script","_law_k"] (top 27)=some zbE:=by rfl
def s19:FnScope ["_law_script","_law_k"] ["_law_script","_law_k"] (zac (top 27)):=⟨rfl,rfl,rfl,by decide +kernel,rfl,by decide +kernel,by decide +kernel⟩
noncomputable def F20:Fn3:=F19.fn "_law_pick" ⟨3,false,zar⟩
def d20:zaC (Gn T F19) false ["_law_script","_law_k","_law_many","_law_drawn"] (top 28)=some zcX:=by rfl
def s20:FnScope ["_law_script","_law_k","_law_many","_law_drawn"] ["_law_script","_law_k","_law_many"] (zac (top 28)):=⟨rfl,rfl,rfl,by decide +kernel,rfl,by decide +kernel,by decide +kernel⟩
noncomputable def F21:Fn3:=F20.fn "_law_tiles" ⟨3,false,zbJ⟩
def d21:zaC (Gn T F20) false ["_law_script","_law_at","_law_most","_law_colours","_law_made","_law_k","_law_tile"] (top 29)=some zco:=by rfl
def s21:FnScope ["_law_script","_law_at","_law_most","_law_colours","_law_made","_law_k","_law_tile"] ["_law_script","_law_at","_law_most"] (zac (top 29)):=⟨rfl,rfl,rfl,by decide +kernel,rfl,by decide +kernel,by decide +kernel⟩
noncomputable def F22:Fn3:=F21.fn "_law_floor" ⟨6,false,zbk⟩
def d22:zaC (Gn T F21) false ["_law_script","_law_at","_law_tiles_here","_law_rows","_law_columns","_law_many","_law_made","_law_row","_law_line","_law_column","_law_here"] (top 30)=some zcp:=by rfl
def s22:FnScope ["_law_script","_law_at","_law_tiles_here","_law_rows","_law_columns","_law_many","_law_made","_law_row","_law_line","_law_column","_law_here"] ["_law_script","_law_at","_law_tiles_here","_law_rows","_law_columns","_law_many"] (zac (top 30)):=⟨rfl,rfl,rfl,by decide +kernel,rfl,by decide +kernel,by decide +kernel⟩
noncomputable def F23:Fn3:=F22.fn "_law_some" ⟨3,false,zaJ⟩
def d23:zaC (Gn T F22) false ["_law_script","_law_at","_law_tiles_here","_law_rows","_law_columns"] (top 31)=some zbD:=by rfl
def s23:FnScope ["_law_script","_law_at","_law_tiles_here","_law_rows","_law_columns"] ["_law_script","_law_at","_law_tiles_here"] (zac (top 31)):=⟨rfl,rfl,rfl,by decide +kernel,rfl,by decide +kernel,by decide +kernel⟩
def d24:zaC (Gn T F23) false ["_law_script","_law_tiles_here","_law_floor_here","_law_book","_law_edges","_law_row","_law_number","_law_colour","_law_other"] (top 32)=some zo9:=by rfl
def s24:FnScope ["_law_script","_law_tiles_here","_law_floor_here","_law_book","_law_edges","_law_row","_law_number","_law_colour","_law_other"] ["_law_script"] (zac (top 32)):=⟨rfl,rfl,rfl,by decide +kernel,rfl,by decide +kernel,by decide +kernel⟩
def gm{K:PySem.W.Frag}{x:Str}{st:Stmt}{f:Addr}{oc kV dc pm cd ct:Value}{od an:Option Addr}{sl:Array (Option Value)}(a:PySem.W.nsIn K mainGlobals x=some (some (.ref f)))(l:K.lookup f=some ⟨oc,od,.func (PySem.W.fnOf x x (zbS st) (zbF st) (zac st) .none kV dc pm an cd ct),sl⟩)(c:PySem.W.codeIn K cd x=true)(k:PySem.W.keepIn K (.ref f)=true)(i:PySem.W.isFn K (.ref f)=true):GFn K x st:=⟨f,a,oc,od,kV,dc,pm,an,cd,ct,sl,l,c,k,i⟩
def mm{K:PySem.W.Frag}{x q:Str}{st:Stmt}{f:Addr}{oc kV dc pm cd ct:Value}{od an:Option Addr}{sl:Array (Option Value)}{C:Addr}(a:PySem.W.findIn K (.ref C) x=some (some (.ref f)))(l:K.lookup f=some ⟨oc,od,.func (PySem.W.fnOf x q (zbS st) (zbF st) (zac st) .none kV dc pm an cd ct),sl⟩)(c:PySem.W.codeIn K cd q=true)(k:PySem.W.keepIn K (.ref f)=true)(i:PySem.W.isFn K (.ref f)=true):MFn K C x q st:=⟨f,a,oc,od,kV,dc,pm,an,cd,ct,sl,l,c,k,i⟩
def all_mk{l:PySem.W.OpenLaw}{w:PySem.World}{K:PySem.W.Frag}{h:Heap}{mg:Z6}{fa f24:Addr}(X:K.In h)(G:h.Ns mainGlobals mg)(hfa:mg "law" = some (.ref fa))
  {od24 an24:Option Addr} {sl24:Array (Option Value)} {oc24 kV24 dc24 pm24 cd24 ct24:Value}
  (a24:PySem.W.nsIn K mainGlobals "law" = some (some (.ref f24)))
  (l24:K.lookup f24=some ⟨oc24,od24,.func (PySem.W.fnOf "law" "law" (zbS (top 32)) (zbF (top 32)) (zac (top 32)) .none kV24 dc24 pm24 an24 cd24 ct24),sl24⟩) (c24:PySem.W.codeIn K cd24 "law" = true) (k24:PySem.W.keepIn K (.ref f24)=true)
  (z1:PySem.W.nsIn K mainGlobals "isinstance" = some none)
  (z2:PySem.W.nsIn K mainGlobals "int" = some none)
  (z3:PySem.W.nsIn K mainGlobals "bool" = some none)
  (z4:PySem.W.nsIn K mainGlobals "tuple" = some none)
  (z5:PySem.W.nsIn K mainGlobals "len" = some none)
  (z6:PySem.W.nsIn K mainGlobals "range" = some none)
  (z7:PySem.W.nsIn K mainGlobals "sum" = some none)
  (z8:PySem.W.nsIn K mainGlobals "reversed" = some none)
  (z9:PySem.W.nsIn K mainGlobals "sorted" = some none)
  (z10:PySem.W.nsIn K mainGlobals "set" = some none)
  {gt1:Tok} (gl1:PySem.W.nsIn K mainGlobals "NORTH" = some (some (.int 0 gt1)))
  {gt2:Tok} (gl2:PySem.W.nsIn K mainGlobals "EAST" = some (some (.int 1 gt2)))
  {gt3:Tok} (gl3:PySem.W.nsIn K mainGlobals "SOUTH" = some (some (.int 2 gt3)))
  {gt4:Tok} (gl4:PySem.W.nsIn K mainGlobals "WEST" = some (some (.int 3 gt4)))
  (p1:GFn K "is_whole" (top 5)) (p2:GFn K "has_number" (top 6)) (p3:GFn K "size_of" (top 7)) (p4:GFn K "places_of" (top 8)) (p5:GFn K "number_at" (top 9)) (p6:GFn K "laid_places" (top 10)) (p7:GFn K "numbers_on" (top 11)) (p8:GFn K "turned_set" (top 13)) (p9:GFn K "column_from_south" (top 14)) (p10:GFn K "turned_floor" (top 15)) (p11:GFn K "mirrored_set" (top 16)) (p12:GFn K "mirrored_floor" (top 17)) (p13:GFn K "rolled_row" (top 18)) (p14:GFn K "rolled" (top 19)) (p15:GFn K "counted" (top 21)) (p16:GFn K "tally" (top 22)) (p17:GFn K "colours_on" (top 23)) (p18:GFn K "unused" (top 25)) (p19:GFn K "_law_cell" (top 27)) (p20:GFn K "_law_pick" (top 28)) (p21:GFn K "_law_tiles" (top 29)) (p22:GFn K "_law_floor" (top 30)) (p23:GFn K "_law_some" (top 31))
  : ∃fd:FuncData,(∀(s:Shared) (v:Value),BindsTo s fd ⟨[v],[]⟩ [("_law_script",v)])/\∀base:Heap,K.In base->base.Ns mainGlobals mg->FnOk l.prog w K mg base (CXE l.prog w) 24 fa fd ["_law_script"] (S2.zlf K):=by
 have e:=hfa.symm.trans (ycy X G a24);cases e;have U24:=znr (st:=(top 32)) l24 c24 k24;refine ⟨PySem.W.fnOf "law" "law" (zbS (top 32)) (zbF (top 32)) (zac (top 32)) .none kV24 dc24 pm24 an24 cd24 ct24,fun s v=>.of_eq rfl,fun base _ _=>?_⟩
 let cl:Cf:=⟨fun x=>(([]:List (Str×Addr)).lookup x).getD 0,K,l.prog,w⟩
 have g0:GOk cl (Gn T F0) l.prog w K mg base 0:=zyD (cl:=cl) (zbb ⟨.int 0,_,ycy X G gl1,⟨_,rfl⟩,fun _=>.int _⟩ (zbb ⟨.int 1,_,ycy X G gl2,⟨_,rfl⟩,fun _=>.int _⟩ (zbb ⟨.int 2,_,ycy X G gl3,⟨_,rfl⟩,fun _=>.int _⟩ (zbb ⟨.int 3,_,ycy X G gl4,⟨_,rfl⟩,fun _=>.int _⟩ ze1)))) (zbb (ya5 X G z1) (zbb (ya5 X G z2) (zbb (ya5 X G z3) (zbb (ya5 X G z4) (zbb (ya5 X G z5) (zbb (ya5 X G z6) (zbb (ya5 X G z7) (zbb (ya5 X G z8) (zbb (ya5 X G z9) (zbb (ya5 X G z10) ze1)))))))))) ze1 ze1 ze1 ze1;have g1:GOk cl (Gn T F1) l.prog w K mg base 1:=g0.addG X G p1 s1 rfl rfl rfl (fun _ _ _ _ _ _=>bb1 fun _=>rfl) d1;have g2:GOk cl (Gn T F2) l.prog w K mg base 2:=g1.addG X G p2 s2 rfl rfl rfl (fun _ _ _ _ _ _=>bb2 fun _ _=>rfl) d2;have g3:GOk cl (Gn T F3) l.prog w K mg base 3:=g2.addG X G p3 s3 rfl rfl rfl (fun _ _ _ _ _ _=>bb1 fun _=>rfl) d3;have g4:GOk cl (Gn T F4) l.prog w K mg base 4:=g3.addG X G p4 s4 rfl rfl rfl (fun _ _ _ _ _ _=>bb1 fun _=>rfl) d4;have g5:GOk cl (Gn T F5) l.prog w K mg base 5:=g4.addG X G p5 s5 rfl rfl rfl (fun _ _ _ _ _ _=>bb2 fun _ _=>rfl) d5;have g6:GOk cl (Gn T F6) l.prog w K mg base 6:=g5.addG X G p6 s6 rfl rfl rfl (fun _ _ _ _ _ _=>bb1 fun _=>rfl) d6;have g7:GOk cl (Gn T F7) l.prog w K mg base 7:=g6.addG X G p7 s7 rfl rfl rfl (fun _ _ _ _ _ _=>bb1 fun _=>rfl) d7;have g8:GOk cl (Gn T F8) l.prog w K mg base 8:=g7.addG X G p8 s8 rfl rfl rfl (fun _ _ _ _ _ _=>bb1 fun _=>rfl) d8;have g9:GOk cl (Gn T F9) l.prog w K mg base 9:=g8.addG X G p9 s9 rfl rfl rfl (fun _ _ _ _ _ _=>bb2 fun _ _=>rfl) d9;have g10:GOk cl (Gn T F10) l.prog w K mg base 10:=g9.addG X G p10 s10 rfl rfl rfl (fun _ _ _ _ _ _=>bb1 fun _=>rfl) d10;have g11:GOk cl (Gn T F11) l.prog w K mg base 11:=g10.addG X G p11 s11 rfl rfl rfl (fun _ _ _ _ _ _=>bb1 fun _=>rfl) d11;have g12:GOk cl (Gn T F12) l.prog w K mg base 12:=g11.addG X G p12 s12 rfl rfl rfl (fun _ _ _ _ _ _=>bb1 fun _=>rfl) d12;have g13:GOk cl (Gn T F13) l.prog w K mg base 13:=g12.addG X G p13 s13 rfl rfl rfl (fun _ _ _ _ _ _=>bb2 fun _ _=>rfl) d13;have g14:GOk cl (Gn T F14) l.prog w K mg base 14:=g13.addG X G p14 s14 rfl rfl rfl (fun _ _ _ _ _ _=>bb2 fun _ _=>rfl) d14;have g15:GOk cl (Gn T F15) l.prog w K mg base 15:=g14.addG X G p15 s15 rfl rfl rfl (fun _ _ _ _ _ _=>bb1 fun _=>rfl) d15;have g16:GOk cl (Gn T F16) l.prog w K mg base 16:=g15.addG X G p16 s16 rfl rfl rfl (fun _ _ _ _ _ _=>bb1 fun _=>rfl) d16;have g17:GOk cl (Gn T F17) l.prog w K mg base 17:=g16.addG X G p17 s17 rfl rfl rfl (fun _ _ _ _ _ _=>bb2 fun _ _=>rfl) d17;have g18:GOk cl (Gn T F18) l.prog w K mg base 18:=g17.addG X G p18 s18 rfl rfl rfl (fun _ _ _ _ _ _=>bb2 fun _ _=>rfl) d18;have g19:GOk cl (Gn T F19) l.prog w K mg base 19:=g18.addG X G p19 s19 rfl rfl rfl (fun _ _ _ _ _ _=>bb2 fun _ _=>rfl) d19;have g20:GOk cl (Gn T F20) l.prog w K mg base 20:=g19.addG X G p20 s20 rfl rfl rfl (fun _ _ _ _ _ _=>bb3 fun _ _ _=>rfl) d20;have g21:GOk cl (Gn T F21) l.prog w K mg base 21:=g20.addG X G p21 s21 rfl rfl rfl (fun _ _ _ _ _ _=>bb3 fun _ _ _=>rfl) d21;have g22:GOk cl (Gn T F22) l.prog w K mg base 22:=g21.addG X G p22 s22 rfl rfl rfl (fun _ _ _ _ _ _=>bb6 fun _ _ _ _ _ _=>rfl) d22;have g23:GOk cl (Gn T F23) l.prog w K mg base 23:=g22.addG X G p23 s23 rfl rfl rfl (fun _ _ _ _ _ _=>bb3 fun _ _ _=>rfl) d23;have G24:=zrV (cl:=cl) (wo:=w) (P:=l.prog) U24 s24 g23 rfl rfl rfl d24;exact G24.imp (zrz (cl:=cl) (fun l hl=>⟨[],zl4 l hl⟩))
def walk{l:PySem.W.OpenLaw}{q:Program}{loose:List Str}{XP:(Str->Option Value)->Heap->Prop}{YP:PySem.World->Heap->Prop}{d:DefRec}{K:Params->PySem.W.Frag}(hn:l.most=some 63)(hdf:d.params.defaults=[])
  (hY:∀(w:PySem.World) (h:Heap),YP w h->(K w.params).In h)
  (F:∀(w:PySem.World) (mg:Z6) (fa:Addr) (h:Heap),(K w.params).In h->h.Ns mainGlobals mg->mg d.name=some (.ref fa) →
   ∃fd:FuncData,(∀(s:Shared) (u:Value),BindsTo s fd ⟨[u],[]⟩ [("_law_script",u)])/\∀base:Heap,(K w.params).In base->base.Ns mainGlobals mg->FnOk l.prog w (K w.params) mg base (CXE l.prog w) 24 fa fd ["_law_script"] (S2.zlf (K w.params))) :
  PySem.W.WalkO q loose XP YP l.row.toRowW d [] (fun f vs=>PySem.call f vs) :=
 L2.znF (n:=63) (k:=24) (x:="_law_script") (CX:=fun w=>CXE l.prog w) (sp:=fun w=>S2.zlf (K w.params)) hn (by decide) hdf ⟨rfl,by decide,by decide⟩ hY F (fun _ _ a ns hl hO hS=>⟨a,ns,rfl,hl,hO,hS,fun _=>rfl⟩) (by rintro _ _ _ _ _ ⟨_,_,_,_,_,_,_,_,_,_,_,_,_,_,z⟩;exact z)
end M81
namespace PySem.W.Fast
def tw12208134773562573143:=0
def tw794174378369518757:=0
def tw13313655071806854866:=0
def tw18114190270545258194:=0
def tw11723718373540702134:=0
def tw16133235282185195653:=0
def tw13321936388589328150:=0
def tw1490355348862657975:=0
def tw17066294824309269057:=0
def tw5795188138597251207:=0
def tw6198979470244761378:=0
def tw7503787133306799548:=0
def tw3894609640960508789:=0
def tw16498308154646235380:=0
def tw2801707786177307477:=0
def tw17564364133141613019:=0
def tw12936524317171341004:=0
def tw12878597350836009558:=0
def tw4411487006440410087:=0
def tw14402285011375756854:=0
def tw2730502263346558762:=0
def tw12463926250803943770:=0
def tw15672564897234363863:=0
def tw11823542660671806162:=0
def tw4448993097324552691:=0
def tw3640497596101776811:=0
def tw1511105090870162763:=0
def tw13696916799203869125:=0
def tw362433461638285375:=0
def tw12609731094174801862:=0
def tw15673283060836661666:=0
def tw18158320723800248351:=0
def tw15021216919717585813:=0
def tw3081103124508921628:=0
def tw5207019176986611137:=0
def tw11577487770381102855:=0
def tw10883534811239734147:=0
def tw9942301131070119668:=0
def tw7202115625692796611:=0
def tw7955570498091434396:=0
def tw17483006731072526951:=0
def tw9600115077503222257:=0
def tw6414871188050557154:=0
def tw5806987890164149278:=0
def tw6394687993872788482:=0
def tw9175195614856767727:=0
def tw7162206623551921227:=0
def tw10910305579623603804:=0
def tw14246640580794788234:=0
def tw12022330958285084866:=0
def tw14278460890439697347:=0
def tw17298017855252654804:=0
def tw11736094333189805093:=0
def tw2389716860303435503:=0
def tw3460267774170121024:=0
def tw6458541125067875529:=0
def tw10830745827329888966:=0
def tw1195942406158545839:=0
def tw2241588169881511761:=0
def tw2095414044074258707:=0
def tw8418466026484511082:=0
def tw7526963152677462930:=0
def tw17158638813255286933:=0
def tw2038070401312623261:=0
def tw7834537655807437216:=0
def tw5942166873006421632:=0
def tw17378580735601379865:=0
def tw15143902065572909434:=0
def tw4093328623122682449:=0
def tw12781464993033863475:=0
def tw736227897609484731:=0
def tw7173921319412084378:=0
def tw1851781470474269039:=0
def tw10204024620184154210:=0
def tw9103297688409450407:=0
def tw7396274103249283804:=0
def tw4025367800902940259:=0
def tw18340177865494395724:=0
def tw9920447963330476060:=0
def tw14406844821598317887:=0
def tw3828335349613666080:=0
def tw5561657214830743906:=0
def tw17284205368504513544:=0
def tw4404904955546423696:=0
def tw9496896544696769537:=0
def tw12756194532798193768:=0
def tw1811709184092453504:=0
def tw2676403880958769540:=0
def tw10741817414553628319:=0
def tw10059235252090935274:=0
def tw5740146028161436107:=0
def tw7773943873367030572:=0
def tw5613687068488612958:=0
def tw3305238375798900008:=0
def tw11195925501153414999:=0
def tw15643476993334257485:=0
def tw1613725780442219819:=0
def tw4211457353443101242:=0
def tw17222528907425526841:=0
def tw9545960892325755244:=0
def tw9379657986736422497:=0
def tw9363088708052831854:=0
def tw9244043222944361624:=0
def tw9151095324043459289:=0
def tw9036395567907964505:=0
def tw9013861711565517942:=0
def tw7635310827124392580:=0
def tw7064151673885787929:=0
def tw6882232851947439467:=0
def tw6686843816305213702:=0
def tw6037544993665353288:=0
def tw6008707100423476103:=0
def tw5379053644152560400:=0
def tw4801075657755207644:=0
def tw457696843882740702:=0
def tw3848575151921091309:=0
def tw2780743351129382732:=0
def tw2634637993013121679:=0
def tw1878513308903936140:=0
def tw18214636787896084308:=0
def tw18030066185094106307:=0
def tw17658227467685066972:=0
def tw17618683806127415278:=0
def tw16822679135142800476:=0
def tw16680883829623742999:=0
def tw1643048580876983311:=0
def tw15860139100319970847:=0
def tw14811618323883196096:=0
def tw14207515719907804949:=0
def tw12664625280881307438:=0
def tw12327838519409931557:=0
def tw11913189774343896039:=0
def tw11617839588700766246:=0
def tw1117947084376640435:=0
def tw10318305551880150231:=0
end PySem.W.Fast
open PySem PySem.W PyProof.Rows
set_option maxRecDepth 100000 in
set_option maxHeartbeats 0 in
theorem PySem.Challenge.cw_floorfits_k81_whole_tallies_holds : PySem.Challenge.rw_floorfits_k81_whole_tallies.Holds := by
 w_on;o_law;k_head;(case hw=>w_witness2)
 k_fill
 refine M81.walk (l:=PySem.Challenge.rw_floorfits_k81_whole_tallies) rfl rfl (fun w h Y=>PySem.W.kIn_of Y) ?F
 case F =>
  intro w mg fa h KX G hmg;refine' M81.all_mk KX G hmg ?a24 ?l24 ?c24 ?k24 ?z1 ?z2 ?z3 ?z4 ?z5 ?z6 ?z7 ?z8 ?z9 ?z10 ?gl1 ?gl2 ?gl3 ?gl4 ?_ ?_ ?_ ?_ ?_ ?_ ?_ ?_ ?_ ?_ ?_ ?_ ?_ ?_ ?_ ?_ ?_ ?_ ?_ ?_ ?_ ?_ ?_
  (case a24=>k_is);(case l24=>k_is);(case c24=>k_is);(case k24=>k_is)
  (case z1=>k_is);(case z2=>k_is);(case z3=>k_is);(case z4=>k_is)
  (case z5=>k_is);(case z6=>k_is);(case z7=>k_is);(case z8=>k_is)
  (case z9=>k_is);(case z10=>k_is);(case gl1=>k_is);(case gl2=>k_is)
  (case gl3=>k_is);(case gl4=>k_is)
  all_goals ((first | refine' M81.gm ?a ?l ?c ?k ?i | refine' M81.mm ?a ?l ?c ?k ?i);(case a=>k_is);(case l=>k_is);(case c=>k_is);(case k=>k_is);(case i=>k_is))
#print axioms PySem.Challenge.cw_floorfits_k81_whole_tallies_holds
