import PyProof.Rows.All
import Wide.All
import OpenK.AllK
import Wide.FinOn
import Lean
import PyProof.EqAt
import PyProof.EqKinds
import PyProof.TupleCall
import PySem.SetTable
import PyProof.TupleKey
import Wide.Seal
import PyProof.DictRoadsH
import PyProof.Rows.TupTab
import PyProof.Draws
import PyProof.EnumMake
import OpenK.KRaise
import OpenK.KOwn
import PyProof.Rows.TopTwo
import PyProof.RulesAs
import PyProof.RulesDel
import PyProof.ExcArgsOwn
import PyProof.ExcAttrAll.ValueError
import PyProof.Rows.CountFlat
import PyProof.SumWalk
import PyProof.Rows.SeqCalls
import PyProof.ZipIter
import KE.KRevIter
import PyProof.CollectIter
import PyProof.TupleOfGen
import PyProof.ListRange
import PyProof.WalkInts
import PyProof.AttrMissHeap
import KE.KDictOf
import PyProof.Rows.TupDisplay
import KE.KSortTup
import KE.KItemsList
import PySem.Challenge.RW_floorfits_k72_whole_layers_and_changes
set_option Elab.async false
set_option linter.all false
set_option maxRecDepth 100000
set_option maxHeartbeats 4000000
abbrev Z1:=Nat->Nat->Option Int
abbrev Z2:=List (List Int)
abbrev Z3:=List (PySem.Addr×PySem.Obj)
abbrev Z4:=List (Option Int)
abbrev Z5:=PySem.Value->PySem.Shared->Prop
abbrev Z6:=PySem.Str->Option PySem.Value
def yaa:=@PySem.wpAny_bind
def yab:=@Bool.and_eq_true
def yac:=@List.getElem?_eq_getElem
def yad:=@PySem.wpAny_pure
def yae:=@PySem.Heap.get?_push_of_some
def yaf:=@List.length_map
def yag:=@List.size_toArray
def yah:=@of_decide_eq_true
def yai:=@PySem.Heap.lt_size
def yaj:=@List.length_cons
def yak:=@Nat.lt_of_lt_of_le
def yal:=@Nat.le_refl
def yam:=@PySem.Heap.get?_push_size
def yan:=@List.getElem?_eq_some_iff
def yao:=@Nat.le_trans
def yap:=@List.mem_cons
def yaq:=@List.mem_map
def yar:=@Nat.ne_of_lt
def yas:=@List.getElem?_map
def yat:=@List.getD_eq_getElem?_getD
def yau:=@List.map_cons
def yav:=@List.mem_cons_of_mem
def yaw:=@List.length_append
def yax:=@List.getElem?_append_right
def yay:=@List.length_set
def yaz:=@List.lookup_cons
def yaA:=@List.getElem?_set_self
def yaB:=@Array.length_toList
def yaC:=@List.mem_append_right
def yaD:=@Bool.false_eq_true
def yaE:=@List.mem_cons_self
def yaF:=@PySem.mem_of_lookup
def yaG:=@Option.some_ne_none
def yaH:=@decide_eq_false
def yaI:=@List.length_take
def yaJ:=@List.not_mem_nil
def yaK:=@List.append_nil
def yaL:=@List.getElem?_append_left
def yaM:=@decide_eq_true_eq
def yaN:=@PySem.wpAny_call_entry
def yaO:=@PySem.W.mg_none_of
def yaP:=@List.getElem?_set_ne
def yaQ:=@decide_eq_true
def yaR:=@PySem.wpAny_newObj_type
def yaS:=@List.length_replicate
def yaT:=@PySem.wpAny_callSpecial?_slot
def yaU:=@List.mem_singleton
def yaV:=@List.getElem?_eq_none
def yaW:=@Nat.zero_le
def yaX:=@Nat.ne_of_gt
def yaY:=@Nat.lt_irrefl
def yaZ:=@List.mem_of_getElem?
def ya0:=@PyProof.Rows.slot_tuple_getitem
def ya1:=@Bool.false_ne_true
def ya2:=@beq_eq_false_iff_ne
def ya3:=@PyProof.Rows.callWith_type1
def ya4:=@PySem.Heap.size_push
def ya5:=@PySem.wpAny_holding
def ya6:=@PySem.W.kia_one
def ya7:=@List.getElem_mem
def ya8:=@List.eq_nil_of_length_eq_zero
def ya9:=@PySem.wpAny_truthy_bool
def yba:=@Int.toNat_natCast
def ybb:=@List.map_map
def ybc:=@List.mem_filter
def ybd:=@PySem.Obj.data_mapFields
def ybe:=@Int.eq_ofNat_of_zero_le
def ybf:=@List.all_eq_true
def ybg:=@List.replicate_succ
def ybh:=@Bool.not_eq_true'
def ybi:=@Array.getElem?_eq_getElem
def ybj:=@List.mem_append
def ybk:=@List.nodup_cons
def ybl:=@PySem.Heap.get?_update_self
def ybm:=@Array.getElem?_toList
def ybn:=@List.length_filter_le
def ybo:=@List.getElem?_drop
def ybp:=@List.all_cons
def ybq:=@List.mem_range
def ybr:=@Nat.mul_le_mul
def ybs:=@PyProof.Rows.F.plain_set_update_loop
def ybt:=@PySem.wpAny_mono
def ybu:=@List.ext_getElem?
def ybv:=@List.filterMap_cons
def ybw:=@PySem.wpAny_field
def ybx:=@List.find?_cons
def yby:=@if_false
def ybz:=@PySem.F.slot_tuple_iterator_next
def ybA:=@beq_self_eq_true
def ybB:=@List.flatten_cons
def ybC:=@Nat.lt_succ_of_lt
def ybD:=@List.map_append
def ybE:=@List.getElem?_replicate
def ybF:=@or_false
def ybG:=@decide_eq_false_iff_not
def ybH:=@PySem.wpAny_isInstance
def ybI:=@List.isEmpty_iff
def ybJ:=@PySem.wpAny_seqItems
def ybK:=@List.take_of_length_le
def ybL:=@Array.getElem?_eq_none
def ybM:=@List.mem_filterMap
def ybN:=@PySem.wpAny_Call_Name_kw
def ybO:=@PySem.sizeLine_eq
def ybP:=@if_true
def ybQ:=@PySem.F.slot_int_rmul
def ybR:=@Bool.eq_iff_iff
def ybS:=@Nat.min_eq_left
def ybT:=@List.range_succ
def ybU:=@PySem.F.called_set
def ybV:=@PySem.wpAny_pyIter_list
def ybW:=@PySem.F.excBase_ValueError
def ybX:=@List.getElem?_of_mem
def ybY:=@PySem.wpAny_binaryOp_repeat_ref
def ybZ:=@PyProof.Rows.F.entry_set_update_loop
def yb0:=@List.pairwise_iff_getElem
def yb1:=@Nat.lt_succ_self
def yb2:=@List.length_drop
def yb3:=@List.filter_cons
def yb4:=@decide_eq_decide
def yb5:=@List.map_congr_left
def yb6:=@Nat.le_of_lt
def yb7:=@Option.isSome_iff_exists
def yb8:=@PySem.F.args_tuple_add_2
def yb9:=@PySem.AutoSeq1.wpAny_loadPart'
def yca:=@List.Pairwise.imp_of_mem
def ycb:=@PySem.wpAny_pyIter_tuple
def ycc:=@PySem.wpAny_passesOwn
def ycd:=@PySem.F.entry_tuple_add
def yce:=@PySem.wpAny_ite_split
def ycf:=@Bool.or_eq_true
def ycg:=@PySem.wpAny_setField_rec
def ych:=@List.getElem?_cons_succ
def yci:=@PySem.W.mg_of
def ycj:=@PySem.F.slot_tuple_add
def yck:=@PyProof.Rows.subscriptTail_builtinR
def ycl:=@PySem.Calls.callWith_builtin
def ycm:=@beq_iff_eq
def ycn:=@List.append_assoc
def yco:=@Nat.le_succ
def ycp:=@PySem.wpAny_of_eq
def ycq:=@PySem.wpAny_pyIter_enum
def ycr:=@PySem.wpAny_setField
def ycs:=@PySem.wpAny_newTuple
def yct:=@PySem.codeAny_mono
def ycu:=@PySem.Obj.isFreed_of_fields
def ycv:=@PySem.F.slot_tuple_mul
def ycw:=@List.any_eq_true
def ycx:=@PySem.Calls.evalArgs_plain
def ycy:=@List.mem_iff_getElem
def ycz:=@PySem.Around.under_plainId
def ycA:=@Bool.not_true
def ycB:=@PySem.wpAny_attempt
def ycC:=@PySem.wpAny_rule
def ycD:=@PySem.typeIs_int
def ycE:=@PySem.call_meets
def ycF:=@PySem.W.plainGet_of
def ycG:=@List.forIn_cons
def ycH:=@PySem.F.slot_zip_next
def ycI:=@PySem.codeAny_builtin
def ycJ:=@PyProof.Rows.assignInOrder_cons
def ycK:=@Nat.le_of_eq
def ycL:=@PySem.Calls.spliced_cons
def ycM:=@PySem.wpAny_typeOf
def ycN:=@List.getElem?_take
def ycO:=@PySem.wpAny_tupleItemsOf
def ycP:=@Array.forIn_toList
def ycQ:=@PySem.W.callWith_K
def ycR:=@Nat.sub_self
def ycS:=@Nat.lt_or_ge
def ycT:=@Int.emod_lt_of_pos
def ycU:=@PySem.Value.isInt_shape
def ycV:=@PySem.F.args_int_rmul_2
def ycW:=@Nat.le_of_succ_le
def ycX:=@PySem.Obj.cls_mapFields
def ycY:=@List.length_range
def ycZ:=@List.pairwise_map
def yc0:=@List.nodup_append
def yc1:=@PySem.wpAny_standAt
def yc2:=@List.map_drop
def yc3:=@PySem.wpAny_newList
def yc4:=@PyProof.Rows.listUpdate_at
def S2.bdI{c k:Nat}(h:c<=k)(hk:k<=1000000):-1000000<=(c:Int)/\(c:Int)<=1000000:=⟨Int.le_trans (by decide) (Int.natCast_nonneg c),Int.ofNat_le.mpr (yao h hk)⟩
def S2.bdN{c k:Nat}(h:c<=k)(hk:k<=1000000):0<=(c:Int)/\(c:Int)<=1000000:=⟨Int.natCast_nonneg c,Int.ofNat_le.mpr (yao h hk)⟩
local macro_rules | `(tactic| omega) => `(tactic| first | assumption | exact yao (by assumption) (by decide) | exact yak (by assumption) (by assumption) | exact yak (by assumption) (by decide) | exact yb6 (by assumption) | exact S2.bdI (by assumption) (by decide) | exact yao (by assumption) (by assumption) | omega +splitDisjunctions)
namespace L2
open PySem PySem.Spec PyProof.Rows
noncomputable abbrev Key:=Sum Int Str
noncomputable def zg1:Key->Value->Bool
 | .inl k,v=>Value.isInt k v
 | .inr x,v=>Value.isStrOf x v
noncomputable def zxK(w:World):Key->Int
 | .inl k=>hashInt k
 | .inr x=>hashStr w x
theorem zav:∀{k:Key} {v:Value},zg1 k v=true->(∃i t,k=Sum.inl i/\v=Value.int i t)\/(∃x t,k=Sum.inr x/\v=Value.str x t)
 | .inl i,v,h=>by
  obtain ⟨t,e⟩:=ycU (k:=i) (v:=v) h;exact .inl ⟨i,t,rfl,e⟩
 | .inr x,v,h=>by
  obtain ⟨t,e⟩:=Value.isStrOf_shape (x:=x) (v:=v) h;exact .inr ⟨x,t,rfl,e⟩
def zj6(i:Int)(t:Tok):zg1 (.inl i) (.int i t)=true:=by simp [zg1,Value.isInt]
def zj5(x:Str)(t:Tok):zg1 (.inr x) (.str x t)=true:=by simp [zg1,Value.isStrOf]
def zrz(a b:Int):decide ((Sum.inl a:Key)=Sum.inl b)=(a == b):=by
 by_cases e:a=b
 ·subst e;simp
 ·have h:¬ (Sum.inl a:Key)=Sum.inl b:=fun q=>e (Sum.inl.inj q)
  rw [yaH h];exact (ya2.mpr e).symm
def zrw(a b:Str):decide ((Sum.inr a:Key)=Sum.inr b)=decide (a=b):=by
 by_cases e:a=b
 ·subst e;simp
 ·have h:¬ (Sum.inr a:Key)=Sum.inr b:=fun q=>e (Sum.inr.inj q)
  rw [yaH h,yaH e]
def zry(a:Int)(b:Str):decide ((Sum.inl a:Key)=Sum.inr b)=false:=yaH (fun q=>nomatch q)
def zrx(a:Str)(b:Int):decide ((Sum.inr a:Key)=Sum.inl b)=false:=yaH (fun q=>nomatch q)
noncomputable def zb1(prog:Program)(w:World):PySem.KeyKind prog w Key where
 is:=zg1
 hash:=zxK w
 inj:=fun v a b ha hb=>by
  rcases zav ha with ⟨i,t,rfl,rfl⟩ | ⟨x,t,rfl,rfl⟩
  ·rcases zav hb with ⟨j,u,rfl,e⟩ | ⟨y,u,rfl,e⟩
   ·injection e with e1 _;rw [e1]
   ·exact nomatch e
  ·rcases zav hb with ⟨j,u,rfl,e⟩ | ⟨y,u,rfl,e⟩
   ·exact nomatch e
   ·injection e with e1 _;rw [e1]
 byValue:=fun k v h=>by
  rcases zav h with ⟨i,t,rfl,rfl⟩ | ⟨x,t,rfl,rfl⟩<;>rfl
 pyHash:=fun hv h=>by
  rcases zav hv with ⟨i,t,rfl,rfl⟩ | ⟨x,t,rfl,rfl⟩
  ·exact wpAny_pyHash_int h
  ·exact wpAny_pyHash_str h
 eqBool:=fun hu hv h=>by
  rcases zav hu with ⟨i,t,rfl,rfl⟩ | ⟨x,t,rfl,rfl⟩
  ·rcases zav hv with ⟨j,u,rfl,rfl⟩ | ⟨y,u,rfl,rfl⟩
   ·rw [zrz] at h;exact wpAny_eqBool_int h
   ·rw [zry] at h;exact SeqAt.EqAt.int_str i t y u _ _ _ _ h
  ·rcases zav hv with ⟨j,u,rfl,rfl⟩ | ⟨y,u,rfl,rfl⟩
   ·rw [zrx] at h;exact SeqAt.EqAt.str_int x t j u _ _ _ _ h
   ·rw [zrw] at h;exact wpAny_eqBool_str h
 «strs»:=fun k x t v h=>by
  rcases zav h with ⟨i,u,rfl,e⟩ | ⟨y,u,rfl,e⟩
  ·exact nomatch e
  ·injection e with e1 _
   subst e1
   cases v<;>rfl
def zgY(prog:Program)(w:World)(i:Int)(t:Tok):(zb1 prog w).is (.inl i) (.int i t)=true:=zj6 i t
def zgX(prog:Program)(w:World)(x:Str)(t:Tok):(zb1 prog w).is (.inr x) (.str x t)=true:=zj5 x t
end L2
namespace L2
open PySem PySem.Spec PyProof.Rows
inductive V where
 | non | bl (b:Bool) | int (i:Int) | str (x:Str) | byt (b:Array UInt8) | flt (b:UInt64) | ref (a:Addr) | ty (n:String)
 deriving DecidableEq
noncomputable def zaJ:V->Value->Prop
 | .non,u=>u=Value.none
 | .bl b,u=>u=Value.bool b
 | .int i,u=>∃t,u=Value.int i t
 | .str x,u=>∃t,u=Value.str x t
 | .byt b,u=>∃t,u=Value.bytes b t
 | .flt b,u=>∃t,u=Value.float b t
 | .ref a,u=>u=Value.ref a
 | .ty n,u=>u=Value.type n
noncomputable abbrev Vals:List V->List Value->Prop:=Paired zaJ
theorem Vals.length{xs:List V}{us:List Value}(r:Vals xs us):xs.length=us.length:=Paired.length r
theorem Vals.get:∀{xs:List V} {us:List Value} {i:Nat} {x:V},Vals xs us->xs[i]?=some x->∃u,us[i]?=some u/\zaJ x u
 | _,_,_,_,.nil,e=>by simp at e
 | _,_,0,_,.cons r _,e=>by simp at e;subst e;exact ⟨_,rfl,r⟩
 | _,_,i+1,x,.cons _ t,e=>by
  obtain ⟨u,h1,h2⟩:=Vals.get (i:=i) (x:=x) t (by simpa using e);exact ⟨u,by simpa using h1,h2⟩
theorem Vals.set{x:V}{u:Value}(r:zaJ x u):∀{xs:List V} {us:List Value} (i:Nat),Vals xs us->Vals (xs.set i x) (us.set i u)
 | _,_,_,.nil=>.nil
 | _,_,0,.cons _ t=>.cons r t
 | _,_,i+1,.cons q t=>.cons q (Vals.set r i t)
theorem Vals.append:∀{xs ys:List V} {us ws:List Value},Vals xs us->Vals ys ws->Vals (xs++ys) (us++ws)
 | _,_,_,_,.nil,s=>s
 | _,_,_,_,.cons r t,s=>.cons r (Vals.append t s)
theorem Vals.take:∀{xs:List V} {us:List Value} (n:Nat),Vals xs us->Vals (xs.take n) (us.take n)
 | _,_,0,_=>.nil
 | _,_,_+1,.nil=>.nil
 | _,_,n+1,.cons r t=>.cons r (Vals.take n t)
theorem Vals.drop:∀{xs:List V} {us:List Value} (n:Nat),Vals xs us->Vals (xs.drop n) (us.drop n)
 | _,_,0,r=>r
 | _,_,_+1,.nil=>.nil
 | _,_,n+1,.cons _ t=>Vals.drop n t
noncomputable def ziO:Option V->Option Value->Prop
 | some v,some u=>zaJ v u
 | none,none=>True
 | _,_=>False
noncomputable def KV{κ:Type}:List (κ×V)->List (κ×Value)->Prop:=Paired fun (p:κ×V) (q:κ×Value)=>p.1=q.1/\zaJ p.2 q.2
noncomputable def kV:Key->V
 | .inl i=>.int i
 | .inr x=>.str x
inductive HO where
 | lst (xs:List V)
 | tup (xs:List V)
 | dK (kvs:List (Key×V)) | dT (kvs:List (List Key×V))
 | set (S:Int->Bool) (n:Nat)
 | ins (C dx:Addr) (fs:List (Str×V))
 | own (x:Addr)
 | xd (fs:List (Str×V))
 | met (f x:Addr)
 | rng (lo hi:Int)
 | frz (o:Obj) (u:HO)
 | tbl (ps:Array Value)
 | ext (φ:Heap->Prop)
noncomputable abbrev Hp:=Addr->Option HO
noncomputable def upd(H:Hp)(a:Addr)(o:HO):Hp:=fun b=>if b=a then some o else H b
def zat{H:Hp}{a:Addr}{o:HO}:upd H a o a=some o:=by unfold upd;rw [if_pos rfl]
def zag{H:Hp}{a b:Addr}{o:HO}(h:b≠a):upd H a o b=H b:=by unfold upd;rw [if_neg h]
def zam{H:Hp}{a b:Addr}{o:HO}(h:H a=some o)(h':H b=none):a≠b:=by
 intro e;subst e;rw [h] at h';cases h'
section
variable(P:Program)(w:World)
noncomputable def zba(H:Hp)(h:Heap)(a:Addr):HO->Prop
 | .lst xs=>xs.length<=sizeLine/\∃(its:List Value) (n:Nat),Vals xs its/\h.get? a=some { cls:=.type "list",data:=.seq its.toArray n }
 | .tup xs=>xs.length<=sizeLine/\∃its:List Value,Vals xs its/\IsTup h a its.toArray
 | .dK kvs=>kvs.length<=sizeLine/\(a == sysModules)=false/\∃vs,KV kvs vs/\h.DictOf (zb1 P w) a vs
 | .dT kvs=>kvs.length<=sizeLine/\(a == sysModules)=false/\∃xs:List (List Key×Addr×Value),
   Paired (fun (p:List Key×V) (q:List Key×Addr×Value)=>p.1=q.1/\H q.2.1=some (.tup (p.1.map kV))/\zaJ p.2 q.2.2) kvs xs ∧
   ∃o es ep,h.get? a=some o/\o.ExactDict/\o.data=.dict es ep/\es.toList=xs.map (entryOfKey (tupleKind (zb1 P w)))/\(xs.map (·.1)).Nodup
 | .set S n=>h.SetOf (intKind P w) a S n
 | .ins C dx fs=>H dx=some (.own a)/\fs.length<=1000/\dx≠a/\h.get? a=some (PySem.W.instObj C dx) ∧
   ∃mA,h.Ns1 dx mA/\(∀f,ziO (fs.lookup f) (mA f))/\PySem.Within mA (fs.map (·.1))
 | .own _=>∃o,h.get? a=some o
 | .xd fs=>∃mA,h.Ns1 a mA/\∀f,ziO (fs.lookup f) (mA f)
 | .rng lo hi=>∃t u v,h.get? a=some { cls:=.type "range",data:=.fields #[.int lo t,.int hi u,.int 1 v] }
 | .frz o u=>h.get? a=some o/\zba H h a u
 | .tbl ps=>h.get? a=some { cls:=.none,data:=.fields ps }
 | .met f x=>h.get? a=some (PySem.W.methodObj (.ref f) (.ref x))
 | .ext φ=>φ h/\(∃o,h.get? a=some o)/\∀h1 h2:Heap,φ h1->(∀o,h1.get? a=some o->h2.get? a=some o)->φ h2
noncomputable def HOk(H:Hp)(h:Heap):Prop:=∀a o,H a=some o->zba P w H h a o
end
section
variable{P:Program}{w:World}{H H':Hp}{h h':Heap}{a:Addr}{o:HO}
theorem zba.lt(x:zba P w H h a o):a<h.objs.size:=by
 cases o with
 | lst xs=>obtain ⟨_,_,_,_,e⟩:=x;exact yai e
 | tup xs=>obtain ⟨_,_,_,p⟩:=x;exact p.lt
 | dK kvs=>obtain ⟨_,_,_,_,o,_,_,e,_⟩:=x;exact yai e
 | dT kvs=>obtain ⟨_,_,_,_,o,_,_,e,_⟩:=x;exact yai e
 | set S n=>obtain ⟨o,_,_,_,e,_⟩:=x;exact yai e
 | ins C dx fs=>obtain ⟨_,_,_,e,_⟩:=x;exact yai e
 | own y=>obtain ⟨_,e⟩:=x;exact yai e
 | xd fs=>obtain ⟨_,⟨_,_,_,e,_⟩,_⟩:=x;exact yai e
 | rng lo hi=>obtain ⟨_,_,_,e⟩:=x;exact yai e
 | frz ob u=>obtain ⟨e,_⟩:=x;exact yai e
 | tbl ps=>exact yai (show h.get? a=some _ from x)
 | met f y=>exact yai (show h.get? a=some _ from x)
 | ext φ=>obtain ⟨_,⟨_,e⟩,_⟩:=x;exact yai e
theorem Paired.mapP{α β:Type}{F G:α->β->Prop}:∀{l₁:List α} {l₂:List β},Paired F l₁ l₂->(∀a b,F a b->G a b)->Paired G l₁ l₂
 | _,_,.nil,_=>.nil
 | _,_,.cons r t,f=>.cons (f _ _ r) (Paired.mapP t f)
def zba.stay(x:zba P w H h a o)(k:∀b u,(b=a\/H b=some (.own a))->h.get? b=some u->h'.get? b=some u)
  (ho:∀b,H b=some (.own a)->H' b=some (.own a)) (ht:∀b xs,H b=some (.tup xs)->H' b=some (.tup xs)):zba P w H' h' a o:=by
 induction o with
 | lst xs=>obtain ⟨z,its,n,r,e⟩:=x;exact ⟨z,its,n,r,k _ _ (.inl rfl) e⟩
 | tup xs=>obtain ⟨z,its,r,ob,e,c⟩:=x;exact ⟨z,its,r,ob,k _ _ (.inl rfl) e,c⟩
 | dK kvs=>obtain ⟨z,y,vs,r,ob,es,ep,e,c⟩:=x;exact ⟨z,y,vs,r,ob,es,ep,k _ _ (.inl rfl) e,c⟩
 | dT kvs =>
  obtain ⟨z,y,xs,r,ob,es,ep,e,c⟩:=x;exact ⟨z,y,xs,Paired.mapP r fun p q z=>⟨z.1,ht _ _ z.2.1,z.2.2⟩,ob,es,ep,k _ _ (.inl rfl) e,c⟩
 | set S n=>obtain ⟨ob,es,ep,t,e,c⟩:=x;exact ⟨ob,es,ep,t,k _ _ (.inl rfl) e,c⟩
 | ins C dx fs =>
  obtain ⟨d,z,ne,e,mA,⟨od,es,ep,e2,c⟩,r⟩:=x;exact ⟨ho _ d,z,ne,k _ _ (.inl rfl) e,mA,⟨od,es,ep,k _ _ (.inr d) e2,c⟩,r⟩
 | own y=>obtain ⟨ob,e⟩:=x;exact ⟨ob,k _ _ (.inl rfl) e⟩
 | xd fs=>obtain ⟨mA,⟨od,es,ep,e,c⟩,r⟩:=x;exact ⟨mA,⟨od,es,ep,k _ _ (.inl rfl) e,c⟩,r⟩
 | rng lo hi=>obtain ⟨t,u,v,e⟩:=x;exact ⟨t,u,v,k _ _ (.inl rfl) e⟩
 | frz ob u ih=>obtain ⟨e,q⟩:=x;exact ⟨k _ _ (.inl rfl) e,ih q⟩
 | tbl ps =>
  have e:h.get? a=some { cls:=.none,data:=.fields ps }:=x;show h'.get? a=some { cls:=.none,data:=.fields ps };exact k a _ (.inl rfl) e
 | met f y =>
  have e:h.get? a=some (PySem.W.methodObj (.ref f) (.ref y)):=x;show h'.get? a=some (PySem.W.methodObj (.ref f) (.ref y));exact k a _ (.inl rfl) e
 | ext φ=>obtain ⟨p,⟨o,e⟩,st⟩:=x;exact ⟨st _ _ p fun o q=>k _ _ (.inl rfl) q,⟨o,k _ _ (.inl rfl) e⟩,st⟩
theorem HOk.lt(x:HOk P w H h)(e:H a=some o):a<h.objs.size:=(x a o e).lt
def HOk.fresh(x:HOk P w H h)(e:h.objs.size<=a):H a=none:=by
 cases q:H a with
 | none=>rfl
 | some u=>exact absurd (yak (x.lt q) e) (yaY _)
def HOk.kept(x:HOk P w H h)(k:∀b u,h.get? b=some u->h'.get? b=some u):HOk P w H h':=fun a o e =>
 (x a o e).stay (fun b u _ q=>k b u q) (fun _ q=>q) fun _ _ q=>q
def HOk.laid(x:HOk P w H h)(k:∀b u,h.get? b=some u->h'.get? b=some u)(hp:h.objs.size<=a)(new:zba P w (upd H a o) h' a o):HOk P w (upd H a o) h':=fun b u e=>by
 have hn:=x.fresh hp
 by_cases hb:b=a
 ·subst hb;rw [zat] at e;cases e;exact new
 ·rw [zag hb] at e
  exact (x b u e).stay (fun c v _ q=>k c v q) (fun c q=>by rw [zag (zam q hn)];exact q) fun c xs q=>by rw [zag (zam q hn)];exact q
end
noncomputable def Rd(H:Hp)(a:Addr)(u:HO):Prop:=H a=some u\/∃o,H a=some (.frz o u)
def Rd.ok{P:Program}{w:World}{H:Hp}{h:Heap}{a:Addr}{u:HO}(r:Rd H a u)(x:HOk P w H h):zba P w H h a u:=by
 rcases r with r | ⟨o,r⟩
 ·exact x a u r
 ·obtain ⟨_,q⟩:=x a _ r;exact q
noncomputable def Mut:Option HO->Prop
 | some (.lst _)=>True
 | some (.dK _)=>True
 | some (.dT _)=>True
 | some (.set _ _)=>True
 | some (.ins _ _ _)=>True
 | some (.ext _)=>True
 | _=>False
section
variable{P:Program}{w:World}{H:Hp}{h h':Heap}{x e:Addr}{o':HO}
def HOk.write(ok:HOk P w H h)(mu:Mut (H x))(he:e=x\/H e=some (.own x))(k:∀b u,b≠e->h.get? b=some u->h'.get? b=some u)(heo:∃u,h'.get? e=some u)
  (new:zba P w (upd H x o') h' x o'):HOk P w (upd H x o') h':=fun b u q=>by
 have nown:∀c y,H c=some (.own y)->c≠x:=fun c y r z=>by subst z;rwa [r] at mu
 have ntup:∀c xs,H c=some (.tup xs)->c≠x:=fun c xs r z=>by subst z;rwa [r] at mu
 by_cases hb:b=x
 ·subst hb;rw [zat] at q;cases q;exact new
 ·rw [zag hb] at q
  by_cases hbe:b=e
  ·have q':H b=some (.own x):=by
    rcases he with z | z
    ·exact absurd (hbe.trans z) hb
    ·rw [hbe];exact z
   rw [q] at q';cases q';obtain ⟨v,hv⟩:=heo;exact ⟨v,by rw [hbe];exact hv⟩
  ·refine (ok b u q).stay (fun c v hc r=>k c v ?_ r) (fun c r=>by rw [zag (nown c b r)];exact r) fun c xs r=>by rw [zag (ntup c xs r)];exact r
   rcases hc with rfl | hc
   ·exact hbe
   ·rintro rfl
    rcases he with z | z
    ·exact nown c b hc z
    ·rw [hc] at z;cases z;exact hb rfl
end
structure Un(fs ex:List Addr)(H H':Hp)(h h':Heap):Prop where
 keep:∀b o,h.get? b=some o->H b=none->b ∉ fs->b ∉ ex->h'.get? b=some o
 slot:∀b o,h.get? b=some o->H b=none->b∈fs->b ∉ ex->∃sl,h'.get? b=some { o with slots:=sl }
 free:∀b o,h.get? b=some o->H b=none->b ∉ ex->H' b=none
 there:∀b o,h.get? b=some o->b ∉ ex->∃o',h'.get? b=some o'
 tups:∀b xs,H b=some (.tup xs)->H' b=some (.tup xs)
 frzs:∀b o u,H b=some (.frz o u)->H' b=some (.frz o u)
 tbls:∀b ps,H b=some (.tbl ps)->∃more,H' b=some (.tbl (ps++more))
section
variable{fs fs' ex ex':List Addr}{H H1 H2:Hp}{h h1 h2 h':Heap}{a x e:Addr}{o:HO}
def Un.any(u:Un fs ex H H1 h h1){b:Addr}{ob:Obj}(q:h.get? b=some ob)(n:H b=none)(hx:b ∉ ex):∃sl,h1.get? b=some { ob with slots:=sl }:=by
 by_cases hb:b∈fs
 ·exact u.slot b ob q n hb hx
 ·exact ⟨ob.slots,u.keep b ob q n hb hx⟩
def Un.kept(k:∀b u,h.get? b=some u->h'.get? b=some u):Un fs ex H H h h' :=
 ⟨fun b ob q _ _ _=>k b ob q,fun b ob q _ _ _=>⟨ob.slots,k b ob q⟩,fun _ _ _ n _=>n,fun b ob q _=>⟨ob,k b ob q⟩,fun _ _ q=>q,fun _ _ _ q=>q,fun _ ps q=>⟨#[],by rw [q];simp⟩⟩
def Un.refl:Un fs ex H H h h:=Un.kept fun _ _ q=>q
def Un.laid(k:∀b u,h.get? b=some u->h'.get? b=some u)(hp:h.objs.size<=a)(hn:H a=none):Un fs ex H (upd H a o) h h' where
 keep:=fun b u q _ _ _=>k b u q
 slot:=fun b u q _ _ _=>⟨u.slots,k b u q⟩
 free:=fun b u q n _=>by rw [zag (yar (yak (yai q) hp))];exact n
 there:=fun b u q _=>⟨u,k b u q⟩
 tups:=fun b xs q=>by rw [zag (zam q hn)];exact q
 frzs:=fun b u xs q=>by rw [zag (zam q hn)];exact q
 tbls:=fun b ps q=>⟨#[],by rw [zag (zam q hn),q];simp⟩
def Un.write(mu:Mut (H x))(he:e=x\/H e=some (.own x))(k:∀b u,b≠e->h.get? b=some u->h'.get? b=some u)(heo:∃u,h'.get? e=some u):Un fs ex H (upd H x o) h h':=by
 have hx:∀b,H b=none->b≠x:=fun b n z=>by subst z;rwa [n] at mu
 have hb:∀b,H b=none->b≠e:=fun b n z=>by
  subst z
  rcases he with r | r
  ·exact hx b n r
  ·rw [n] at r;cases r
 have hm:∀b u,H b=some u->¬ Mut (some u)->b≠x:=fun b u q nm z=>by subst z;rw [q] at mu;exact nm mu
 refine ⟨fun b u q n _ _=>k b u (hb b n) q,fun b u q n _ _=>⟨u.slots,k b u (hb b n) q⟩,fun b u q n _=>by rw [zag (hx b n)];exact n,fun b u q _=>?_,
  fun b xs q=>by rw [zag (hm b _ q fun z=>z)];exact q,fun b u xs q=>by rw [zag (hm b _ q fun z=>z)];exact q,fun b ps q=>⟨#[],by rw [zag (hm b _ q fun z=>z),q];simp⟩⟩
 by_cases hbe:b=e
 ·subst hbe;exact heo
 ·exact ⟨u,k b u hbe q⟩
end
noncomputable def trk(h:Heap)(H:Hp):List Addr:=(List.range h.objs.size).filter fun a=>(H a).isSome
noncomputable def zmn(h:Heap)(H:Hp):Heap:=PySem.W.hideAll h (trk h H)
def zkn(h:Heap)(H:Hp):(zmn h H).objs.size=h.objs.size:=PySem.W.hideAll_size _ _
def zmm{h:Heap}{H:Hp}{b:Addr}{o:Obj}(e:h.get? b=some o)(n:H b=none):(zmn h H).get? b=some o :=
 PySem.W.hideAll_get _ e fun hm=>by
  have q:(H b).isSome=true:=(ybc.mp hm).2;rw [n] at q;simp at q
def zoy{h:Heap}{H:Hp}{b:Addr}{o:Obj}(e:(zmn h H).get? b=some o):h.get? b=some o/\H b=none:=by
 have e':h.get? b=some o:=PySem.W.of_hideAll (trk h H) e;refine ⟨e',?_⟩
 cases q:H b with
 | none=>rfl
 | some x =>
  have hm:b∈trk h H:=ybc.mpr ⟨ybq.mpr (yai e'),by simp [q]⟩;have z:(zmn h H).get? b=none:=PySem.W.hideAll_none (trk h H) hm;rw [z] at e;cases e
noncomputable def zps(g h:Heap)(L:Addr):List (Addr×Obj):=(List.range h.objs.size).filterMap fun a=>if a=L\/(g.get? a).isSome=true then none else (h.get? a).map fun o=>(a,o)
noncomputable def zbq(g h:Heap)(L d:Addr):List (Addr×Obj):=(zps g h L).filter fun p=>decide (p.1≠d)
end L2
namespace L2
open PySem PySem.Spec PyProof.Rows
structure Mod(K:PySem.W.Frag)(mg:Z6)(base:Heap):Prop where
 kin:K.In base
 glob:base.Ns mainGlobals mg
 blt:∃mb,base.Ns builtinsNs mb/\∀x:Str,x ≠ "__name__" -> mb x=bootBuiltins x
 nolimit:base.NoLimit
structure Cx where
 prog:Program
 w:World
 K:PySem.W.Frag
 mg:Str->Option Value
 base:Heap
 A:Around
 N:List Str
 s₀:Shared
 H₀:Hp
 env:Env
 outer:List Env
 stack:List Env
 ex:List Addr
 fn:Str->Bool
 calm:Bool
 pn:List (Addr×Obj)
 xe:Value->Shared->Prop
noncomputable def frs(l:List Env):List Addr:=l.filterMap (·.frame)
noncomputable abbrev Cx.fs(X:Cx):List Addr:=frs X.outer
noncomputable def Vis(sc:Scope)(x:Str):Prop:=sc.names.lookup x=some .local\/sc.names.lookup x=some .cell\/sc.names.lookup x=some .free
noncomputable def Loc(sc:Scope)(x:Str):Prop:=sc.names.lookup x=some .local\/sc.names.lookup x=some .cell
noncomputable def zyB(env:Env)(h:Heap)(m:Z6)(x:Str)(u:Value):Prop :=
 (env.kindOf x=some .local/\m x=some u)\/((env.kindOf x=some .cell\/env.kindOf x=some .free)/\∃c,env.cells.lookup x=some c/\h.IsCell c (some u))
structure Cx.Ok(X:Cx):Prop where
 mod:Mod X.K X.mg X.base
 kind:X.env.scope.kind=.function
 glob:X.env.globals=mainGlobals
 blt:X.env.builtins=builtinsNs
 above:X.s₀.heap.objs.size<=X.env.locals
 inj:∀x y c,X.env.cells.lookup x=some c->X.env.cells.lookup y=some c->x=y
 has:∀x,(X.env.kindOf x=some .cell\/X.env.kindOf x=some .free)->∃c,X.env.cells.lookup x=some c
 cab:∀x c,X.fn x=true->X.env.cells.lookup x=some c->X.s₀.heap.objs.size<=c
 hd:X.calm=true->X.A.handled=none
 frames:X.A.frames=some X.stack
 stk:X.stack=X.outer\/(X.stack=X.env::X.outer/\X.env.frame=some X.env.locals)
 exf:∀b∈X.ex,b≠X.env.locals/\∀x c,X.env.cells.lookup x=some c->c≠b
 bs:∀b o,X.base.get? b=some o->X.s₀.heap.get? b=some o/\X.H₀ b=none
 bsz:X.base.objs.size<=X.s₀.heap.objs.size
 noex:∀b o,X.base.get? b=some o->b ∉ X.ex
 exfs:∀b∈X.ex,b ∉ X.fs
 funs:X.s₀.heap.FunFrames X.base X.outer
 frf:∀b∈X.fs,X.H₀ b=none
structure Inv(X:Cx)(pins:Z3)(σ:List (Option V))(H:Hp)(s:Shared):Prop where
 ok:X.Ok
 os:s.os=X.s₀.os
 bare:AllBare s.gens
 base:Un X.fs X.ex X.H₀ H X.s₀.heap s.heap
 loc:∃m,s.heap.Ns X.env.locals m/\∀(i:Nat) (x:Str) (v:V),X.N[i]?=some x->σ[i]?=some (some v)->Vis X.env.scope x->∃u,zaJ v u/\zyB X.env s.heap m x u
 cell:∀x c,X.env.cells.lookup x=some c->∃v,s.heap.IsCell c v
 free:H X.env.locals=none
 freeC:∀x c,X.env.cells.lookup x=some c->H c=none
 pin:∀p∈X.pn++pins,s.heap.get? p.1=some p.2/\H p.1=none/\p.1≠X.env.locals/\p.1 ∉ X.fs/\∀v,p.2.data≠.cell v
 hok:HOk X.prog X.w H s.heap
 len:σ.length=X.N.length
section
variable{X:Cx}{pins:Z3}{σ:List (Option V)}{H H':Hp}{s:Shared}{h':Heap}
def Cx.Ok.nofr(ok:X.Ok){b:Addr}{o:Obj}(e:X.base.get? b=some o):b ∉ X.fs:=fun hb=>by
 have:=(ok.funs.mem hb).1;rw [e] at this;cases this
theorem Inv.bs(I:Inv X pins σ H s):∀b o,X.base.get? b=some o->s.heap.get? b=some o/\H b=none:=fun b o e =>
 ⟨I.base.keep b o (I.ok.bs b o e).1 (I.ok.bs b o e).2 (I.ok.nofr e) (I.ok.noex b o e),I.base.free b o (I.ok.bs b o e).1 (I.ok.bs b o e).2 (I.ok.noex b o e)⟩
def Inv.bk(I:Inv X pins σ H s):∀b o,X.base.get? b=some o->s.heap.get? b=some o:=fun b o e=>(I.bs b o e).1
theorem Inv.mod(I:Inv X pins σ H s):Mod X.K X.mg X.base:=I.ok.mod
def Inv.kIn(I:Inv X pins σ H s):X.K.In s.heap:=I.ok.mod.kin.keeps I.bk
theorem Inv.lt(I:Inv X pins σ H s):X.env.locals<s.heap.objs.size:=let ⟨_,hn,_⟩:=I.loc;hn.lt
def Inv.sz(I:Inv X pins σ H s):X.s₀.heap.objs.size<=s.heap.objs.size:=yao I.ok.above (yb6 I.lt)
def Inv.nofs(I:Inv X pins σ H s){a:Addr}(h:s.heap.objs.size<=a):a ∉ X.fs:=fun hb=>by
 obtain ⟨_,o,ho,_⟩:=I.ok.funs.mem hb;exact absurd (yak (yai ho) (yao I.sz h)) (yaY _)
def Inv.cne(I:Inv X pins σ H s):∀x c,X.env.cells.lookup x=some c->c≠X.env.locals:=fun x c e z=>by
 obtain ⟨v,o,ho,hd⟩:=I.cell x c e;obtain ⟨m,⟨o',es,ep,ho',hd',_⟩,_⟩:=I.loc;rw [z,ho'] at ho;cases ho;rw [hd'] at hd;cases hd
theorem Inv.funs(I:Inv X pins σ H s):s.heap.FunFrames X.base X.outer:=by
 have all:∀(l:List Env),(∀b∈frs l,b∈X.fs)->X.s₀.heap.FunFrames X.base l->s.heap.FunFrames X.base l:=by
  intro l
  induction l with
  | nil=>intro _ _;trivial
  | cons env r ih =>
   intro hs hl;obtain ⟨hk,⟨L,o,hf,hn,ho,hd⟩,hr⟩:=hl;have hL:L∈X.fs:=hs L (by unfold frs;rw [ybv,hf];exact yaE);obtain ⟨sl,e⟩:=I.base.slot L o ho (I.ok.frf L hL) hL fun z=>I.ok.exfs L z hL
   exact ⟨hk,⟨L,_,hf,hn,e,hd⟩,ih (fun b hb=>hs b (by unfold frs;rw [ybv,hf];exact yav _ hb)) hr⟩
 exact all X.outer (fun _ hb=>hb) I.ok.funs
theorem Inv.stack(I:Inv X pins σ H s):s.heap.FunFrames X.base X.stack:=by
 rcases I.ok.stk with e | ⟨e,hf⟩
 ·rw [e];exact I.funs
 ·rw [e];obtain ⟨m,hn,_⟩:=I.loc;refine .cons (by rw [I.ok.kind];decide) hf hn ?_ I.funs;exact Heap.get?_none_of_le (yao I.ok.bsz I.ok.above)
def Inv.stkSub(I:Inv X pins σ H s):∀b∈frs X.stack,b∈X.env.locals::X.fs:=fun b hb=>by
 rcases I.ok.stk with e | ⟨e,hf⟩
 ·rw [e] at hb;exact yav _ hb
 ·rw [e] at hb;unfold frs at hb;rwa [ybv,hf] at hb
def Inv.stkFree(I:Inv X pins σ H s):∀b∈frs X.stack,H b=none:=fun b hb=>by
 rcases yap.mp (I.stkSub b hb) with e | hb
 ·rw [e];exact I.free
 ·obtain ⟨_,o,ho,_⟩:=I.ok.funs.mem hb;exact I.base.free b o ho (I.ok.frf b hb) fun z=>I.ok.exfs b z hb
def Inv.step{g':Array GenState}{t':Nat}{d':Drawn}{ch:List Addr}(I:Inv X pins σ H s)
  (hch:∀b∈ch,(b∈X.ex\/X.s₀.heap.objs.size<=b)/\b≠X.env.locals/\(∀x c,X.env.cells.lookup x=some c->c≠b)/\∀p∈X.pn++pins,p.1≠b)
  (keep:∀b o,b≠X.env.locals->b ∉ X.fs->b ∉ ch->s.heap.get? b=some o->H b=none->h'.get? b=some o)
  (slot:∀b o,b≠X.env.locals->b∈X.fs->b ∉ ch->s.heap.get? b=some o->H b=none->∃sl,h'.get? b=some { o with slots:=sl }) (free:∀b o,b ∉ ch->s.heap.get? b=some o->H b=none->H' b=none)
  (there:∀b o,b ∉ ch->s.heap.get? b=some o->∃o',h'.get? b=some o')
  (tups:∀b xs,H b=some (.tup xs)->H' b=some (.tup xs)) (frzs:∀b o u,H b=some (.frz o u)->H' b=some (.frz o u)) (tbls:∀b ps,H b=some (.tbl ps)->∃more,H' b=some (.tbl (ps++more)))
  (ns:∀m,s.heap.Ns X.env.locals m->h'.Ns X.env.locals m) (hok:HOk X.prog X.w H' h') (hg:AllBare g') :
  Inv X pins σ H' { s with heap:=h',gens:=g',drawn:=d',toks:=t' }:=by
 have neL:∀b o,X.s₀.heap.get? b=some o->b≠X.env.locals:=fun b o e=>yar (yak (yai e) I.ok.above)
 have neC:∀b o,X.s₀.heap.get? b=some o->b ∉ X.ex->b ∉ ch:=fun b o e hx hb=>by
  rcases (hch b hb).1 with z | z
  ·exact hx z
  ·exact absurd (yak (yai e) z) (yaY _)
 have cellK:∀x c,X.env.cells.lookup x=some c->∀v,s.heap.IsCell c v->h'.IsCell c v:=fun x c e v ⟨o,ho,hd⟩=>by
  have nch:c ∉ ch:=fun z=>(hch c z).2.2.1 x c e rfl
  by_cases hc:c∈X.fs
  ·obtain ⟨sl,q⟩:=slot c o (I.cne x c e) hc nch ho (I.freeC x c e);exact ⟨_,q,hd⟩
  ·exact ⟨o,keep c o (I.cne x c e) hc nch ho (I.freeC x c e),hd⟩
 refine ⟨I.ok,I.os,hg,⟨fun b o e n hb hx=>?_,fun b o e n hb hx=>?_,fun b o e n hx=>?_,fun b o e hx=>?_,fun b xs e=>tups b xs (I.base.tups b xs e),fun b o xs e=>frzs b o xs (I.base.frzs b o xs e),fun b ps e=>?_⟩,?_,fun x c e=>?_,?_,fun x c e=>?_,fun p hp=>?_,hok,I.len⟩
 ·exact keep b o (neL b o e) hb (neC b o e hx) (I.base.keep b o e n hb hx) (I.base.free b o e n hx)
 ·obtain ⟨sl,e1⟩:=I.base.slot b o e n hb hx;obtain ⟨sl',e2⟩:=slot b _ (neL b o e) hb (neC b o e hx) e1 (I.base.free b o e n hx);exact ⟨sl',e2⟩
 ·obtain ⟨o',e1⟩:=I.base.there b o e hx;exact free b o' (neC b o e hx) e1 (I.base.free b o e n hx)
 ·obtain ⟨o',e1⟩:=I.base.there b o e hx;exact there b o' (neC b o e hx) e1
 ·obtain ⟨m1,e1⟩:=I.base.tbls b ps e;obtain ⟨m2,e2⟩:=tbls b _ e1;exact ⟨m1++m2,by rw [e2,Array.append_assoc]⟩
 ·obtain ⟨m,hn,hl⟩:=I.loc;refine ⟨m,ns m hn,fun i x v e1 e2 e3=>?_⟩;obtain ⟨u,r,l⟩:=hl i x v e1 e2 e3;refine ⟨u,r,?_⟩
  rcases l with l | ⟨k,c,e,z⟩
  ·exact .inl l
  ·exact .inr ⟨k,c,e,cellK x c e _ z⟩
 ·obtain ⟨v,z⟩:=I.cell x c e;exact ⟨v,cellK x c e v z⟩
 ·obtain ⟨m,⟨o,_,_,ho,_⟩,_⟩:=I.loc;exact free _ o (fun z=>(hch _ z).2.1 rfl) ho I.free
 ·obtain ⟨v,o,ho,hd⟩:=I.cell x c e;exact free c o (fun z=>(hch c z).2.2.1 x c e rfl) ho (I.freeC x c e)
 ·obtain ⟨e,n,ne,nf,d⟩:=I.pin p hp;have nch:p.1 ∉ ch:=fun z=>(hch p.1 z).2.2.2 p hp rfl
  exact ⟨keep p.1 p.2 ne nf nch e n,free p.1 p.2 nch e n,ne,nf,d⟩
def Inv.un{t':Nat}(I:Inv X pins σ H s)(u:Un X.fs [] H H' s.heap h')(hok:HOk X.prog X.w H' h'):Inv X pins σ H' { s with heap:=h',toks:=t' }:=by
 obtain ⟨m,⟨o,es,ep,ho,r⟩,_⟩:=id I.loc;obtain ⟨sl,hL⟩:=u.any ho I.free (by simp)
 exact I.step (g':=s.gens) (d':=s.drawn) (ch:=[]) (fun _ z=>nomatch z) (fun b o _ hb _ e n=>u.keep b o e n hb (by simp)) (fun b o _ hb _ e n=>u.slot b o e n hb (by simp)) (fun b o _ e n=>u.free b o e n (by simp)) (fun b o _ e=>u.there b o e (by simp)) u.tups u.frzs u.tbls (fun m' hm=>by
  obtain ⟨o',es',ep',ho',r'⟩:=hm;rw [ho] at ho';cases ho'
  exact ⟨_,es',ep',hL,r'⟩) hok I.bare
def Inv.call{g':Array GenState}{t':Nat}{d':Drawn}{ch:List Addr}(I:Inv X pins σ H s)(u:Un (frs X.stack) ch H H' s.heap h')(hok:HOk X.prog X.w H' h')(hg:AllBare g')
  (hch:∀b∈ch,(b∈X.ex\/X.s₀.heap.objs.size<=b)/\b≠X.env.locals/\(∀x c,X.env.cells.lookup x=some c->c≠b)/\∀p∈X.pn++pins,p.1≠b) :
  Inv X pins σ H' { s with heap:=h',gens:=g',drawn:=d',toks:=t' }:=by
 obtain ⟨m,⟨o,es,ep,ho,r⟩,_⟩:=id I.loc;obtain ⟨sl,hL⟩:=u.any ho I.free fun z=>(hch _ z).2.1 rfl
 exact I.step (ch:=ch) hch (fun b o hL hb hc e n=>u.keep b o e n (fun z=>(yap.mp (I.stkSub b z)).elim hL hb) hc) (fun b o _ _ hc e n=>u.any e n hc) (fun b o hc e n=>u.free b o e n hc) (fun b o hc e=>u.there b o e hc) u.tups u.frzs u.tbls (fun m' hm=>by
  obtain ⟨o',es',ep',ho',r'⟩:=hm;rw [ho] at ho';cases ho'
  exact ⟨_,es',ep',hL,r'⟩) hok hg
def Inv.turned{t':Nat}{it:Addr}(I:Inv X pins σ H s)(k:∀b o,b≠it->s.heap.get? b=some o->h'.get? b=some o)(hn:H it=none)(hL:it≠X.env.locals)
  (h1:it∈X.ex\/X.s₀.heap.objs.size<=it) (h2:∀x c,X.env.cells.lookup x=some c->c≠it) (h3:∀p∈X.pn++pins,p.1≠it):Inv X pins σ H { s with heap:=h',toks:=t' }:=by
 have nit:∀b u,H b=some u->b≠it:=fun b u e z=>by rw [z,hn] at e;cases e
 refine I.step (g':=s.gens) (d':=s.drawn) (ch:=[it]) (fun b hb=>?_) (fun b o _ _ hc e _=>k b o (fun z=>hc (by simp [z])) e) (fun b o _ _ hc e _=>⟨o.slots,k b o (fun z=>hc (by simp [z])) e⟩) (fun _ _ _ _ n=>n)
  (fun b o hc e=>⟨o,k b o (fun z=>hc (by simp [z])) e⟩) (fun _ _ e=>e) (fun _ _ _ e=>e) (fun b ps e=>⟨#[],by rw [e];simp⟩) (fun m hm=>?_) (fun b u e=>?_) I.bare
 ·have e:b=it:=by simpa using hb
  subst e;exact ⟨h1,hL,h2,h3⟩
 ·obtain ⟨o,es,ep,ho,r⟩:=hm;exact ⟨o,es,ep,k _ o (Ne.symm hL) ho,r⟩
 ·refine (I.hok b u e).stay (fun c v hc q=>k c v ?_ q) (fun _ q=>q) fun _ _ q=>q
  rcases hc with z | z
  ·rw [z];exact nit b u e
  ·exact nit c _ z
def Inv.tok(I:Inv X pins σ H s)(t:Nat):Inv X pins σ H { s with toks:=t }:=I.un (h':=s.heap) (t':=t) Un.refl I.hok
theorem Inv.kept{t':Nat}(I:Inv X pins σ H s)(k:∀b u,s.heap.get? b=some u->h'.get? b=some u):Inv X pins σ H { s with heap:=h',toks:=t' }:=I.un (Un.kept k) (I.hok.kept k)
theorem Inv.laid{a:Addr}{o:HO}{t':Nat}(I:Inv X pins σ H s)(k:∀b u,s.heap.get? b=some u->h'.get? b=some u)(hp:s.heap.objs.size<=a)(new:zba X.prog X.w (upd H a o) h' a o) :
  Inv X pins σ (upd H a o) { s with heap:=h',toks:=t' }:=I.un (Un.laid k hp (I.hok.fresh hp)) (I.hok.laid k hp new)
theorem Inv.write{x e:Addr}{o:HO}{t':Nat}(I:Inv X pins σ H s)(mu:Mut (H x))(he:e=x\/H e=some (.own x))(k:∀b u,b≠e->s.heap.get? b=some u->h'.get? b=some u)(heo:∃u,h'.get? e=some u)
  (new:zba X.prog X.w (upd H x o) h' x o):Inv X pins σ (upd H x o) { s with heap:=h',toks:=t' }:=I.un (Un.write mu he k heo) (I.hok.write mu he k heo new)
def Inv.pins_of{pins':Z3}(I:Inv X pins σ H s)(h:∀p∈pins',s.heap.get? p.1=some p.2/\H p.1=none/\p.1≠X.env.locals/\p.1 ∉ X.fs/\∀v,p.2.data≠.cell v):Inv X pins' σ H s :=
 ⟨I.ok,I.os,I.bare,I.base,I.loc,I.cell,I.free,I.freeC,fun p hp=>(ybj.mp hp).elim (fun z=>I.pin p (List.mem_append_left _ z)) (h p),I.hok,I.len⟩
def zhO{N:List Str}(hN:N.Nodup){i j:Nat}{x:Str}(a:N[i]?=some x)(b:N[j]?=some x):i=j:=by
 obtain ⟨h1,e1⟩:=yan.mp a;obtain ⟨h2,e2⟩:=yan.mp b;exact (List.getElem_inj hN).mp (e1.trans e2.symm)
def zfQ{M:Model}{A:Around}{E:Z5}{i:Nat}{x:Str}{v:V}{u:Value}{Q:Unit->Shared->Prop}(I:Inv X pins σ H s)(hN:X.N.Nodup)(hi:X.N[i]?=some x)(hx:Loc X.env.scope x)(r:zaJ v u)
  (h:∀s',Inv X pins (σ.set i (some v)) H s'->(∃a,Heap.SameBut a s.heap s'.heap/\(a=X.env.locals\/X.env.cells.lookup x=some a))->Q () s') (hf:X.fn x=true\/X.env.scope.names.lookup x=some .local:=by first | exact .inl rfl | exact .inr rfl | assumption):wpAny M A (storeName X.env x u) Q E s:=by
 obtain ⟨m,hn,hl⟩:=id I.loc
 have hcls:(X.env.scope.kind == .class||(X.env.scope.kind == .module&&X.env.locals != X.env.globals))=false:=by rw [I.ok.kind];rfl
 have hiσ:i<σ.length:=by rw [I.len];exact (yan.mp hi).1
 have cne:=I.cne
 have tracked:∀{a:Addr} {h':Heap},(∃o,s.heap.get? a=some o/\H a=none)->Heap.SameBut a s.heap h'->HOk X.prog X.w H h':=fun {a h'} ha hs b ob e=>by
  obtain ⟨_,_,hfree⟩:=ha;refine (I.hok b ob e).stay (fun c w' hc q=>(hs.2 c ?_).trans q) (fun _ q=>q) fun _ _ q=>q
  rintro rfl
  rcases hc with rfl | hc
  ·rw [hfree] at e;cases e
  ·rw [hfree] at hc;cases hc
 rcases hx with hk | hk
 ·refine wpAny_storeName_local hk hn (fun h' hn' hs=>?_) hcls;obtain ⟨oL,_,_,hoL,_⟩:=id hn;refine h _ ⟨I.ok,I.os,I.bare,⟨fun b o e n hb hx=>?_,fun b o e n hb hx=>?_,I.base.free,fun b o e hx=>?_,I.base.tups,I.base.frzs,I.base.tbls⟩,⟨_,hn',fun j y v' e1 e2 e3=>?_⟩,fun y c e=>?_,I.free,I.freeC,fun p hp=>?_,tracked ⟨oL,hoL,I.free⟩ hs,by simpa using I.len⟩ ⟨_,hs,.inl rfl⟩
  ·exact (hs.2 b (yar (yak (yai e) I.ok.above))).trans (I.base.keep b o e n hb hx)
  ·obtain ⟨sl,e1⟩:=I.base.slot b o e n hb hx;exact ⟨sl,(hs.2 b (yar (yak (yai e) I.ok.above))).trans e1⟩
  ·obtain ⟨o',e1⟩:=I.base.there b o e hx;exact ⟨o',(hs.2 b (yar (yak (yai e) I.ok.above))).trans e1⟩
  ·by_cases hj:j=i
   ·subst hj;rw [hi] at e1;cases e1;rw [yaA hiσ] at e2;cases e2;exact ⟨u,r,.inl ⟨hk,by simp⟩⟩
   ·rw [yaP (Ne.symm hj)] at e2;obtain ⟨u',r',q⟩:=hl j y v' e1 e2 e3;refine ⟨u',r',?_⟩
    rcases q with ⟨k,e⟩ | ⟨k,c,e,z⟩
    ·refine .inl ⟨k,?_⟩;have:y≠x:=fun e=>hj (zhO hN e1 (e ▸ hi))
     simp [this,e]
    ·exact .inr ⟨k,c,e,z.sameBut hs (cne y c e)⟩
  ·obtain ⟨w',z⟩:=I.cell y c e;exact ⟨w',z.sameBut hs (cne y c e)⟩
  ·obtain ⟨e,n,ne,nf,d⟩:=I.pin p hp;exact ⟨(hs.2 p.1 ne).trans e,n,ne,nf,d⟩
 ·have hfn:X.fn x=true:=by
   rcases hf with z | z
   ·exact z
   ·rw [z] at hk;cases hk
  obtain ⟨c,hc⟩:=I.ok.has x (.inl hk);obtain ⟨w',z⟩:=I.cell x c hc;refine wpAny_storeName_cell I.ok.kind hk hc z (fun h' hc' hs=>?_);obtain ⟨oc,hoc,hocd⟩:=id z;refine h { s with heap:=h' } ⟨I.ok,I.os,I.bare,⟨fun b o e n hb hx=>?_,fun b o e n hb hx=>?_,I.base.free,fun b o e hx=>?_,I.base.tups,I.base.frzs,I.base.tbls⟩,⟨m,hn.sameBut hs (Ne.symm (cne x c hc)),fun j y v' e1 e2 e3=>?_⟩,fun y c' e=>?_,I.free,I.freeC,fun p hp=>?_,tracked ⟨oc,hoc,I.freeC x c hc⟩ hs,by simpa using I.len⟩ ⟨c,hs,.inr hc⟩
  ·exact (hs.2 b (yar (yak (yai e) (I.ok.cab x c hfn hc)))).trans (I.base.keep b o e n hb hx)
  ·obtain ⟨sl,e1⟩:=I.base.slot b o e n hb hx;exact ⟨sl,(hs.2 b (yar (yak (yai e) (I.ok.cab x c hfn hc)))).trans e1⟩
  ·obtain ⟨o',e1⟩:=I.base.there b o e hx;exact ⟨o',(hs.2 b (yar (yak (yai e) (I.ok.cab x c hfn hc)))).trans e1⟩
  ·by_cases hj:j=i
   ·subst hj;rw [hi] at e1;cases e1;rw [yaA hiσ] at e2;cases e2;exact ⟨u,r,.inr ⟨.inl hk,c,hc,hc'⟩⟩
   ·rw [yaP (Ne.symm hj)] at e2;obtain ⟨u',r',q⟩:=hl j y v' e1 e2 e3;refine ⟨u',r',?_⟩
    rcases q with q | ⟨k,c',e,z'⟩
    ·exact .inl q
    ·refine .inr ⟨k,c',e,z'.sameBut hs ?_⟩;rintro rfl;exact hj (zhO hN e1 (I.ok.inj _ _ _ e hc ▸ hi))
  ·by_cases hcc:c'=c
   ·subst hcc;exact ⟨_,hc'⟩
   ·obtain ⟨w2,z2⟩:=I.cell y c' e;exact ⟨w2,z2.sameBut hs hcc⟩
  ·obtain ⟨e,n,ne,nf,d⟩:=I.pin p hp;refine ⟨(hs.2 p.1 ?_).trans e,n,ne,nf,d⟩;intro q;rw [q,hoc] at e;have q':oc=p.2:=Option.some.inj e;exact d w' (by rw [<-q'];exact hocd)
def zc4{M:Model}{A:Around}{E:Z5}{i:Nat}{x:Str}{v:V}{u:Value}{Q:Unit->Shared->Prop}(I:Inv X pins σ H s)(hN:X.N.Nodup)(hi:X.N[i]?=some x)(hx:Loc X.env.scope x)(r:zaJ v u)
  (h:∀s',Inv X pins (σ.set i (some v)) H s'->Q () s') (hf:X.fn x=true\/X.env.scope.names.lookup x=some .local:=by first | exact .inl rfl | exact .inr rfl | assumption):wpAny M A (storeName X.env x u) Q E s :=
 zfQ I hN hi hx r (fun s' I' _=>h s' I') hf
def Inv.call'{s':Shared}{ch:List Addr}(I:Inv X pins σ H s)(ho:s'.os=s.os)(u:Un (frs X.stack) ch H H' s.heap s'.heap)(hok:HOk X.prog X.w H' s'.heap)(hg:AllBare s'.gens)
  (hch:∀b∈ch,(b∈X.ex\/X.s₀.heap.objs.size<=b)/\b≠X.env.locals/\(∀x c,X.env.cells.lookup x=some c->c≠b)/\∀p∈X.pn++pins,p.1≠b):Inv X pins σ H' s':=by
 obtain ⟨h',g',d',t',o'⟩:=s';have e:o'=s.os:=ho;subst e;exact I.call (g':=g') (t':=t') (d':=d') u hok hg hch
end
noncomputable abbrev XK:=Value->Option Addr->Hp->Prop
noncomputable abbrev St:=List (Option V)
noncomputable abbrev VK:=V->Hp->Prop
noncomputable abbrev TE:=St->Hp->VK->Prop
noncomputable abbrev TT:=St->Hp->(Bool->Hp->Prop)->Prop
noncomputable abbrev TA:=St->Hp->(List V->Hp->Prop)->Prop
structure Ends where
 nx:St->Hp->Prop
 rt:VK
 bk:St->Hp->Prop:=fun _ _=>False
 ct:St->Hp->Prop:=fun _ _=>False
noncomputable abbrev TS:=Ends->St->Hp->Prop
noncomputable def EP(X:Cx)(pins:Z3)(σ:St)(Q:VK)(u:Value)(s':Shared):Prop:=∃v H',Inv X pins σ H' s'/\zaJ v u/\Q v H'
noncomputable def TP(X:Cx)(pins:Z3)(σ:St)(Q:Bool->Hp->Prop)(b:Bool)(s':Shared):Prop:=∃H',Inv X pins σ H' s'/\Q b H'
noncomputable def AP(X:Cx)(pins:Z3)(σ:St)(Q:List V->Hp->Prop)(us:List Value)(s':Shared):Prop:=∃vs H',Inv X pins σ H' s'/\Vals vs us/\Q vs H'
noncomputable def SP(X:Cx)(pins:Z3)(D:Ends)(f:Flow)(s':Shared):Prop :=
 match f with
 | .next=>∃σ' H',Inv X pins σ' H' s'/\D.nx σ' H'
 | .brk=>∃σ' H',Inv X pins σ' H' s'/\D.bk σ' H'
 | .cont=>∃σ' H',Inv X pins σ' H' s'/\D.ct σ' H'
 | .ret u=>∃v σ' H',Inv X pins σ' H' s'/\zaJ v u/\D.rt v H'
noncomputable def PE(X:Cx)(e:Expr)(t:TE):Prop :=
 ∀(pins:Z3) (s:Shared) (σ:St) (H:Hp) (Q:VK),Inv X pins σ H s->t σ H Q->wpAny (model X.prog X.w) X.A (eval e X.env) (EP X pins σ Q) X.xe s
noncomputable def PT(X:Cx)(e:Expr)(t:TT):Prop :=
 ∀(pins:Z3) (s:Shared) (σ:St) (H:Hp) (Q:Bool->Hp->Prop),Inv X pins σ H s->t σ H Q->wpAny (model X.prog X.w) X.A (isTrue e X.env (eval e X.env)) (TP X pins σ Q) X.xe s
noncomputable def PW(X:Cx)(e:Expr)(t:TT):Prop :=
 ∀(whole:Sem Value) (pins:Z3) (s:Shared) (σ:St) (H:Hp) (Q:Bool->Hp->Prop),Inv X pins σ H s->t σ H Q->wpAny (model X.prog X.w) X.A (isTrue e X.env whole) (TP X pins σ Q) X.xe s
def PW.pt{X:Cx}{e:Expr}{t:TT}(h:PW X e t):PT X e t:=h _
noncomputable def PA(X:Cx)(es:List Expr)(t:TA):Prop :=
 ∀(pos:Pos) (pins:Z3) (s:Shared) (σ:St) (H:Hp) (Q:List V->Hp->Prop),Inv X pins σ H s->t σ H Q->wpAny (model X.prog X.w) X.A (spliced (backTo pos (starEach es X.env))) (AP X pins σ Q) X.xe s
noncomputable def PS(X:Cx)(st:Stmt)(t:TS):Prop :=
 ∀(pins:Z3) (s:Shared) (σ:St) (H:Hp) (D:Ends),Inv X pins σ H s->t D σ H->wpAny (model X.prog X.w) X.A (exec st X.env) (SP X pins D) X.xe s
noncomputable def PSs(X:Cx)(st:List Stmt)(t:TS):Prop :=
 ∀(pins:Z3) (s:Shared) (σ:St) (H:Hp) (D:Ends),Inv X pins σ H s->t D σ H->wpAny (model X.prog X.w) X.A (execs st X.env) (SP X pins D) X.xe s
def thn{α:Type}{t:Sem α}{Q Q':α->Shared->Prop}{M:Model}{A:Around}{E:Z5}{s:Shared}(h:wpAny M A t Q E s)(hQ:∀a s,Q a s->Q' a s):wpAny M A t Q' E s:=ybt h hQ fun _ _ x=>x
end L2
namespace L2
open PySem PySem.Spec PyProof.Rows
section
variable{X:Cx}
noncomputable def zvv(i:Nat):TE:=fun σ H Q=>∃v,σ[i]?=some (some v)/\Q v H
noncomputable def tC(v:V):TE:=fun _ H Q=>Q v H
def zca{i:Nat}{x:Str}{pos:Pos}(hN:X.N[i]?=some x)(hv:Vis X.env.scope x)(hd:(x == ("__debug__":Str))=false:=by decide)(hcd:(x == ("__classdict__":Str))=false:=by decide):PE X (.Name x pos) (zvv i):=by
 intro pins s σ H Q I h;obtain ⟨v,e,h⟩:=h;obtain ⟨m,hn,hl⟩:=I.loc;obtain ⟨u,r,l⟩:=hl i x v hN e hv;have fin:EP X pins σ Q u s:=⟨v,H,I,r,h⟩
 rcases l with ⟨hk,hm⟩ | ⟨hk,c,hc,hcell⟩
 ·exact wpAny_Name (wpAny_loadName_local I.ok.kind hk hn hm fin) hd
 ·rcases hk with hk | hk
  ·exact wpAny_Name (wpAny_loadName_cell I.ok.kind hk hc hcell fin) hd
  ·exact wpAny_Name (wpAny_loadName_free I.ok.kind hk hc hcell fin hcd) hd
def zq3{i j pos}:PE X (.Constant (.int i) j pos) (tC (.int i)):=fun _ _ _ H _ I h=>wpAny_Constant_int ⟨.int i,H,I.tok _,⟨_,rfl⟩,h⟩
def ztE{b j pos}:PE X (.Constant (.bool b) j pos) (tC (.bl b)):=fun _ _ _ H _ I h=>Constant_bool ⟨.bl b,H,I,rfl,h⟩
def zq0{j pos}:PE X (.Constant .none j pos) (tC .non):=fun _ _ _ H _ I h=>Constant_none ⟨.non,H,I,rfl,h⟩
def zqW{x j pos}:PE X (.Constant (.str x) j pos) (tC (.str x)):=fun _ _ _ H _ I h=>Calls.Constant_str ⟨.str x,H,I.tok _,⟨_,rfl⟩,h⟩
noncomputable def Gl(X:Cx)(x:Str):Prop:=X.env.kindOf x=some .globalImplicit
def zeg{E:Z5}{pins:Z3}{s:Shared}{σ:St}{H:Hp}{x:Str}{u:Value}{pos:Pos}{Q:Z5}(I:Inv X pins σ H s)(hg:Gl X x)(hm:X.mg x=some u)(h:Q u s)
  (hd:(x == ("__debug__":Str))=false:=by decide):wpAny (model X.prog X.w) X.A (eval (.Name x pos) X.env) Q E s :=
 Calls.Name_function_global I.ok.kind hg (Calls.loadGlobal_global (by rw [I.ok.glob];exact I.mod.glob.keeps I.bk) hm h) hd
def zdH{E:Z5}{pins:Z3}{s:Shared}{σ:St}{H:Hp}{x:Str}{u:Value}{pos:Pos}{Q:Z5}(I:Inv X pins σ H s)(hg:Gl X x)(hm:X.mg x=none)(hv:bootBuiltins x=some u)(h:Q u s)
  (hn:x ≠ "__name__":=by decide) (hd:(x == ("__debug__":Str))=false:=by decide):wpAny (model X.prog X.w) X.A (eval (.Name x pos) X.env) Q E s:=by
 obtain ⟨mb,h1,h2⟩:=I.mod.blt;exact Calls.Name_function_global I.ok.kind hg (Calls.loadGlobal_builtin (by rw [I.ok.glob];exact I.mod.glob.keeps I.bk) hm (by rw [I.ok.blt];exact h1.keeps I.bk) ((h2 x hn).trans hv) h) hd
def zop{x:Str}{v:V}{u:Value}{pos:Pos}(hg:Gl X x)(hm:X.mg x=some u)(r:zaJ v u)(hd:(x == ("__debug__":Str))=false:=by decide):PE X (.Name x pos) (tC v) :=
 fun _ _ _ H _ I h=>zeg I hg hm ⟨v,H,I,r,h⟩ hd
def zor{x:Str}{v:V}{u:Value}{pos:Pos}(hg:Gl X x)(hm:X.mg x=none)(hv:bootBuiltins x=some u)(r:zaJ v u)(hn:x ≠ "__name__":=by decide)(hd:(x == ("__debug__":Str))=false:=by decide):PE X (.Name x pos) (tC v) :=
 fun _ _ _ H _ I h=>zdH I hg hm hv ⟨v,H,I,r,h⟩ hn hd
variable{a b:Expr}{ta tb:TE}{pos:Pos}
noncomputable def tB(t:TE):TT:=fun σ H Q=>t σ H fun x H1=>∃c,x=.bl c/\Q c H1
def zqO{e:Expr}{t:TE}(h:PE X e t)(he:∀whole,isTrue e X.env whole=(do let v ← whole;standAt e.pos;holding [v] (truthy v)):=by intro _;rfl):PT X e (tB t):=by
 intro pins s σ H Q I hw;refine isTrue_plain (thn (h pins s σ H _ I hw) fun v s1 ⟨x,H1,I1,r1,q1⟩=>?_) (he _);obtain ⟨d,rfl,q⟩:=q1;cases r1;exact ya9 ⟨H1,I1,q⟩
variable{tA tB':TT}{zbq:List Expr}
noncomputable def zvz(t u:TT):TT:=fun σ H Q=>t σ H fun c H1=>if c=true then u σ H1 Q else Q false H1
noncomputable def tOr(t u:TT):TT:=fun σ H Q=>t σ H fun c H1=>if c=true then Q true H1 else u σ H1 Q
noncomputable def zvx(t:TT):TT:=fun σ H Q=>t σ H fun c H1=>Q (!c) H1
def zod(ha:PT X a tA):PW X (.BoolOp .And [a] pos) tA:=by
 intro wh pins s σ H Q I h;refine isTrue_and (thn (ha pins s σ H Q I h) fun c s1 e=>?_)
 cases c with
 | true=>exact isTrue_and_nil e
 | false=>exact e
def zqK(ha:PT X a tA):PW X (.BoolOp .Or [a] pos) tA:=by
 intro wh pins s σ H Q I h;refine isTrue_or (thn (ha pins s σ H Q I h) fun c s1 e=>?_)
 cases c with
 | false=>exact isTrue_or_nil e
 | true=>exact e
def zqL(ha:PT X a tA)(hb:PW X (.BoolOp .And (b::zbq) pos) tB'):PW X (.BoolOp .And (a::b::zbq) pos) (zvz tA tB'):=by
 intro wh pins s σ H Q I h;refine isTrue_and (thn (ha pins s σ H _ I h) fun c s1 ⟨H1,I1,q1⟩=>?_)
 cases c with
 | true=>exact hb wh pins s1 σ H1 Q I1 q1
 | false=>exact ⟨H1,I1,q1⟩
def ztz(ha:PT X a tA)(hb:PW X (.BoolOp .Or (b::zbq) pos) tB'):PW X (.BoolOp .Or (a::b::zbq) pos) (tOr tA tB'):=by
 intro wh pins s σ H Q I h;refine isTrue_or (thn (ha pins s σ H _ I h) fun c s1 ⟨H1,I1,q1⟩=>?_)
 cases c with
 | true=>exact ⟨H1,I1,q1⟩
 | false=>exact hb wh pins s1 σ H1 Q I1 q1
def zqP(ha:PT X a tA):PT X (.UnaryOp .Not a pos) (zvx tA):=by
 intro pins s σ H Q I h;exact isTrue_not (ha pins s σ H (fun c H1=>Q (!c) H1) I h)
noncomputable def zth(ta tb:TE):TE:=fun σ H Q=>ta σ H fun x H1=>∃c,x=.bl c/\if c=true then tb σ H1 Q else Q (.bl false) H1
noncomputable def zxt(ta tb:TE):TE:=fun σ H Q=>ta σ H fun x H1=>∃c,x=.bl c/\if c=true then Q (.bl true) H1 else tb σ H1 Q
noncomputable def zta(ta:TE):TE:=fun σ H Q=>ta σ H fun x H1=>∃c,x=.bl c/\Q (.bl (!c)) H1
def zqY{op}{t:TE}(h:PE X a t):PE X (.BoolOp op [a] pos) t:=fun pins s σ H Q I hw=>BoolOp_one (h pins s σ H Q I hw)
def zq5(ha:PE X a ta)(hb:PE X (.BoolOp .And (b::zbq) pos) tb):PE X (.BoolOp .And (a::b::zbq) pos) (zth ta tb):=by
 intro pins s σ H Q I h;refine BoolOp_and (thn (ha pins s σ H _ I h) fun v s1 ⟨x,H1,I1,r1,q1⟩=>?_);obtain ⟨c,rfl,q1⟩:=q1;cases r1;refine ya9 ?_
 cases c with
 | true=>exact hb pins s1 σ H1 Q I1 q1
 | false=>exact ⟨.bl false,H1,I1,rfl,q1⟩
def ztD(ha:PE X a ta)(hb:PE X (.BoolOp .Or (b::zbq) pos) tb):PE X (.BoolOp .Or (a::b::zbq) pos) (zxt ta tb):=by
 intro pins s σ H Q I h;refine BoolOp_or (thn (ha pins s σ H _ I h) fun v s1 ⟨x,H1,I1,r1,q1⟩=>?_);obtain ⟨c,rfl,q1⟩:=q1;cases r1;refine ya9 ?_
 cases c with
 | false=>exact hb pins s1 σ H1 Q I1 q1
 | true=>exact ⟨.bl true,H1,I1,rfl,q1⟩
def zqZ(ha:PE X a ta):PE X (.UnaryOp .Not a pos) (zta ta):=by
 intro pins s σ H Q I h;refine UnaryOp_ (thn (ha pins s σ H _ I h) fun v s1 ⟨x,H1,I1,r1,q1⟩=>?_);obtain ⟨c,rfl,q1⟩:=q1;cases r1;exact not_of (ya9 ⟨.bl (!c),H1,I1,rfl,q1⟩)
noncomputable def tIf(t:TT)(ta tb:TE):TE:=fun σ H Q=>t σ H fun c H1=>if c=true then ta σ H1 Q else tb σ H1 Q
def zlF{c:Expr}(hc:PT X c tA)(ha:PE X a ta)(hb:PE X b tb):PE X (.IfExp c a b pos) (tIf tA ta tb):=by
 intro pins s σ H Q I h;refine wpAny_IfExp (thn (hc pins s σ H _ I h) fun d s1 ⟨H1,I1,q1⟩=>?_)
 cases d with
 | true=>exact ha pins s1 σ H1 Q I1 q1
 | false=>exact hb pins s1 σ H1 Q I1 q1
end
end L2
namespace L2
open PySem PySem.Spec PyProof.Rows
noncomputable def SqL(K:PySem.W.Frag)(H:Hp)(a:Addr)(xs:List V):Prop :=
 Rd H a (.lst xs) ∨
  ∃(o:Obj) (its:Array Value) (n:Nat),K.lookup a=some o/\o.cls=.type "list" /\ o.dict=none/\o.data=.seq its n/\its.size<=sizeLine/\Vals xs its.toList
noncomputable def SqT(K:PySem.W.Frag)(H:Hp)(a:Addr)(xs:List V):Prop :=
 Rd H a (.tup xs) ∨
  ∃(o:Obj) (its:Array Value) (n:Nat),K.lookup a=some o/\o.cls=.type "tuple" /\ o.data=.seq its n/\its.size<=sizeLine/\Vals xs its.toList
noncomputable def zyA:Value->Option V
 | .none=>some .non
 | .bool b=>some (.bl b)
 | .int i _=>some (.int i)
 | .str x _=>some (.str x)
 | .bytes b _=>some (.byt b)
 | .float b _=>some (.flt b)
 | .ref a=>some (.ref a)
 | .type n=>some (.ty n)
 | _=>none
def zaJ.abs{x:V}{u:Value}(r:zaJ x u):zyA u=some x:=by
 cases x with
 | non=>cases r;rfl
 | bl _=>cases r;rfl
 | int _=>obtain ⟨t,rfl⟩:=r;rfl
 | str _=>obtain ⟨t,rfl⟩:=r;rfl
 | byt _=>obtain ⟨t,rfl⟩:=r;rfl
 | flt _=>obtain ⟨t,rfl⟩:=r;rfl
 | ref _=>cases r;rfl
 | ty _=>cases r;rfl
theorem zaJ.inj{x y:V}{u:Value}(r:zaJ x u)(q:zaJ y u):x=y:=Option.some.inj (r.abs.symm.trans q.abs)
theorem Vals.inj:∀{xs ys:List V} {us:List Value},Vals xs us->Vals ys us->xs=ys
 | _,_,_,.nil,.nil=>rfl
 | _,_,_,.cons r t,.cons r' t'=>by rw [r.inj r',Vals.inj t t']
section
variable{X:Cx}{pins:Z3}{σ:St}{H:Hp}{s:Shared}{a:Addr}{xs ys:List V}
def SqL.of{K:PySem.W.Frag}(h:H a=some (.lst xs)):SqL K H a xs:=.inl (.inl h)
def SqT.of{K:PySem.W.Frag}(h:H a=some (.tup xs)):SqT K H a xs:=.inl (.inl h)
def Inv.list(I:Inv X pins σ H s)(h:SqL X.K H a xs):∃its:List Value,Vals xs its/\PlainL s.heap a its.toArray/\xs.length<=sizeLine:=by
 rcases h with h | ⟨o,its,n,hk,hc,hd,hs,hz,r⟩
 ·obtain ⟨z,its,n,r,e⟩:=h.ok I.hok;exact ⟨its,r,⟨_,n,e,rfl,rfl,rfl⟩,z⟩
 ·refine ⟨its.toList,r,⟨o,n,I.kIn a o hk,hc,hd,by simpa using hs⟩,?_⟩;have e:=r.length;simp only [yaB] at e;omega
def Inv.tuple(I:Inv X pins σ H s)(h:SqT X.K H a xs):∃its:List Value,Vals xs its/\IsTup s.heap a its.toArray/\xs.length<=sizeLine:=by
 rcases h with h | ⟨o,its,n,hk,hc,hs,hz,r⟩
 ·obtain ⟨z,its,r,p⟩:=h.ok I.hok;exact ⟨its,r,p,z⟩
 ·refine ⟨its.toList,r,⟨o,I.kIn a o hk,hc,n,by simpa using hs⟩,?_⟩;have e:=r.length;simp only [yaB] at e;omega
def Inv.list_inj(I:Inv X pins σ H s)(h:SqL X.K H a xs)(h':SqL X.K H a ys):xs=ys:=by
 obtain ⟨its,r,⟨o,n,e,_,_,d⟩,_⟩:=I.list h;obtain ⟨its',r',⟨o',n',e',_,_,d'⟩,_⟩:=I.list h';rw [e] at e';cases e';rw [d] at d'
 injection d' with d1 _
 have:its=its':=by simpa using congrArg Array.toList d1
 subst this;exact r.inj r'
def Inv.tuple_inj(I:Inv X pins σ H s)(h:SqT X.K H a xs)(h':SqT X.K H a ys):xs=ys:=by
 obtain ⟨its,r,⟨o,e,_,n,d⟩,_⟩:=I.tuple h;obtain ⟨its',r',⟨o',e',_,n',d'⟩,_⟩:=I.tuple h';rw [e] at e';cases e';rw [d] at d'
 injection d' with d1 _
 have:its=its':=by simpa using congrArg Array.toList d1
 subst this;exact r.inj r'
end
section
variable{X:Cx}{pins:Z3}{σ:St}{H:Hp}{s:Shared}{E:Z5}
end
section
variable{X:Cx}{st:Stmt}{zbq:List Stmt}{t u:TS}{e:Expr}{te:TE}{pos:Pos}
noncomputable def zpV:TS:=fun D σ H=>D.nx σ H
noncomputable def zxr(t u:TS):TS:=fun D σ H=>t { D with nx:=u D } σ H
def zoe:PSs X [] zpV:=fun _ _ σ H _ I h=>wpAny_execs_nil ⟨σ,H,I,h⟩
def zlt(h1:PS X st t)(h2:PSs X zbq u):PSs X (st::zbq) (zxr t u):=by
 intro pins s σ H D I h;refine wpAny_execs_cons (thn (h1 pins s σ H { D with nx:=u D } I h) fun f s1 q=>?_)
 cases f with
 | next =>
  obtain ⟨σ',H',I',q⟩:=q;exact h2 pins s1 σ' H' D I' q
 | ret v=>exact q
 | brk=>exact q
 | cont=>exact q
def ztA(h1:PS X st t):PSs X [st] t:=by
 intro pins s σ H D I h;refine wpAny_execs_cons (thn (h1 pins s σ H D I h) fun f s1 q=>?_)
 cases f with
 | next=>exact wpAny_execs_nil q
 | ret v=>exact q
 | brk=>exact q
 | cont=>exact q
noncomputable def zp0:TS:=fun D σ H=>D.bk σ H
def zog:PS X (.Pass pos) zpV:=fun _ _ σ H _ I h=>wpAny_Pass ⟨σ,H,I,h⟩
def zlw:PS X (.Break pos) zp0:=fun _ _ σ H _ I h=>wpAny_Break ⟨σ,H,I,h⟩
def Inv.quiet{pins:Z3}{σ:St}{H:Hp}{s:Shared}(I:Inv X pins σ H s):interactive X.env=false:=by simp [interactive,I.ok.kind]
noncomputable def zte(te:TE):TS:=fun D σ H=>te σ H fun _ H1=>D.nx σ H1
def zjA(he:PE X e te)(hs:swapsWith e none pos.line X.env=pure false:=by rfl):PS X (.Expr e pos) (zte te):=by
 intro pins s σ H D I h;exact wpAny_Expr_any (thn (he pins s σ H _ I h) fun v s1 ⟨x,H1,I1,r1,q1⟩=>⟨σ,H1,I1,q1⟩) I.quiet hs
noncomputable def zxs(te:TE):TS:=fun D σ H=>te σ H D.rt
def zjy(he:PE X e te):PS X (.Return (some e) pos) (zxs te):=by
 intro pins s σ H D I h;exact wpAny_Return_some (thn (he pins s σ H _ I h) fun v s1 ⟨x,H1,I1,r1,q1⟩=>⟨x,σ,H1,I1,r1,q1⟩)
noncomputable def zs9:TS:=fun D _ H=>D.rt .non H
def zof:PS X (.Return none pos) zs9:=fun _ _ σ H _ I h=>wpAny_Return_none ⟨.non,σ,H,I,rfl,h⟩
noncomputable def zxv(c:TT)(t u:TS):TS:=fun D σ H=>c σ H fun b H1=>if b=true then t D σ H1 else u D σ H1
def ztB{c:Expr}{a b:List Stmt}{tc:TT}(hc:PT X c tc)(ha:PSs X a t)(hb:PSs X b u):PS X (.If c a b pos) (zxv tc t u):=by
 intro pins s σ H D I h;refine wpAny_If (thn (hc pins s σ H _ I h) fun d s1 ⟨H1,I1,q1⟩=>?_)
 cases d with
 | true=>exact ha pins s1 σ H1 D I1 q1
 | false=>exact hb pins s1 σ H1 D I1 q1
end
noncomputable abbrev TG:=V->St->Hp->(St->Hp->Prop)->Prop
noncomputable abbrev TGs:=List V->St->Hp->(St->Hp->Prop)->Prop
noncomputable def PG(X:Cx)(target:Expr)(t:TG):Prop :=
 ∀(pins:Z3) (s:Shared) (σ:St) (H:Hp) (v:V) (u:Value) (Q:St->Hp->Prop),Inv X pins σ H s->zaJ v u->t v σ H Q →
  wpAny (model X.prog X.w) X.A (assign target X.env u) (fun _ s'=>∃σ' H',Inv X pins σ' H' s'/\Q σ' H') X.xe s
noncomputable def PGs(X:Cx)(ts:List Expr)(t:TGs):Prop :=
 ∀(pins:Z3) (s:Shared) (σ:St) (H:Hp) (vs:List V) (us:List Value) (Q:St->Hp->Prop),Inv X pins σ H s->Vals vs us->t vs σ H Q →
  wpAny (model X.prog X.w) X.A (assignInOrder ((assignEach ts X.env).map (·.2)) us) (fun _ s'=>∃σ' H',Inv X pins σ' H' s'/\Q σ' H') X.xe s
noncomputable abbrev TSet:=V->V->V->Hp->(Hp->Prop)->Prop
noncomputable def zuH(X:Cx)(t:TSet):Prop :=
 ∀(pins:Z3) (s:Shared) (σ:St) (H:Hp) (o i v:V) (ov iv u:Value) (Q:Hp->Prop),Inv X pins σ H s->zaJ o ov->zaJ i iv->zaJ v u->t o i v H Q →
  wpAny (model X.prog X.w) X.A (setItem ov iv u) (fun _ s'=>∃H',Inv X pins σ H' s'/\Q H') X.xe s
noncomputable abbrev TIp:=V->V->Hp->VK->Prop
noncomputable def PIp(X:Cx)(op:Operator)(t:TIp):Prop :=
 ∀(pins:Z3) (s:Shared) (σ:St) (H:Hp) (x y:V) (v u:Value) (Q:VK),Inv X pins σ H s->zaJ x v->zaJ y u->t x y H Q →
  wpAny (model X.prog X.w) X.A (inplaceOp op v u) (EP X pins σ Q) X.xe s
section
variable{X:Cx}{pos:Pos}
noncomputable def zkr(i:Nat):TG:=fun v σ H Q=>Q (σ.set i (some v)) H
def zjK{i:Nat}{x:Str}(hN:X.N.Nodup)(hi:X.N[i]?=some x)(hx:Loc X.env.scope x)(hf:X.fn x=true\/X.env.scope.names.lookup x=some .local:=by first | exact .inl rfl | exact .inr rfl | assumption):PG X (.Name x pos) (zkr i):=by
 intro pins s σ H v u Q I r h;exact wpAny_assign_Name (zc4 I hN hi hx r (fun s' I'=>⟨_,H,I',h⟩) hf)
noncomputable def zys:TGs:=fun vs σ H Q=>vs=[]/\Q σ H
noncomputable def zug(t:TG)(u:TGs):TGs:=fun vs σ H Q=>∃v r,vs=v::r/\t v σ H fun σ' H'=>u r σ' H' Q
def zoo:PGs X [] zys:=by
 intro pins s σ H vs us Q I r h;obtain ⟨e,h⟩:=h;subst e;cases r;exact assignInOrder_nil ⟨σ,H,I,h⟩
def zlB{e:Expr}{es:List Expr}{t:TG}{u:TGs}(h1:PG X e t)(h2:PGs X es u)
  (hs:(assignEach (e::es) X.env).map (·.2)=assign e X.env::(assignEach es X.env).map (·.2):=by rfl):PGs X (e::es) (zug t u):=by
 intro pins s σ H vs us Q I r h;obtain ⟨v,vr,e1,h⟩:=h;subst e1
 cases r with
 | cons r rr =>
  rw [hs];refine ycJ (thn (h1 pins s σ H _ _ _ I r h) fun _ s1 ⟨σ1,H1,I1,q1⟩=>?_);exact h2 pins s1 σ1 H1 _ _ Q I1 rr q1
noncomputable def zyq(K:PySem.W.Frag)(n:Nat)(t:TGs):TG:=fun v σ H Q=>∃a xs,v=.ref a/\SqT K H a xs/\xs.length=n/\t xs σ H Q
def zqU{es:List Expr}{k:Nat}{t:TGs}{n:Nat}(hc:X.calm=true)(h:PGs X es t)
  (hn:(assignEach es X.env).length=n:=by rfl) (hst:(assignEach es X.env).findIdx? (·.1)=none:=by rfl):PG X (.Tuple es k pos) (zyq X.K n t):=by
 intro pins s σ H v u Q I r hw;obtain ⟨a,xs,e1,hq,hl,hw⟩:=hw;subst e1;cases r;obtain ⟨its,rv,ht,hz⟩:=I.tuple hq;refine assign_Tuple_tuple (I.ok.hd hc) ht (by simp [hn,<-hl,rv.length]) hst fun h' hx=>?_
 have I1:Inv X pins σ H { s with heap:=h' }:=I.kept (t':=s.toks) fun b o e=>hx b o (yar (yai e)) e
 exact h pins _ σ H xs _ Q I1 (by simpa using rv) hw
noncomputable def zyr(to ti:TE)(t:TSet):TG:=fun v σ H Q=>to σ H fun o H1=>ti σ H1 fun i H2=>t o i v H2 fun H3=>Q σ H3
def zm5{o i:Expr}{to ti:TE}{t:TSet}(ho:PE X o to)(hi:PE X i ti)(hs:zuH X t)
  (ha:∀v,assign (.Subscript o i pos) X.env v=(do
   let ov ← holding [v] (eval o X.env)
   let iv ← holding [v,ov] (eval i X.env)
   standAt pos
   holding [v,ov,iv] (setItem ov iv v)
   release [v,ov,iv] []):=by intro _;rfl):PG X (.Subscript o i pos) (zyr to ti t):=by
 intro pins s σ H v u Q I r h;rw [ha];refine yaa (ya5 (thn (ho pins s σ H _ I h) fun ov s1 ⟨x,H1,I1,r1,q1⟩=>?_));refine yaa (ya5 (thn (hi pins s1 σ H1 _ I1 q1) fun iv s2 ⟨y,H2,I2,r2,q2⟩=>?_));refine yaa (yc1 (yaa (ya5 (thn (hs pins s2 σ H2 x y v ov iv u _ I2 r1 r2 r q2) fun _ s3 ⟨H3,I3,q3⟩=>?_))));exact wpAny_release ⟨σ,H3,I3,q3⟩
noncomputable def zpw(te:TE)(g:TG):TS:=fun D σ H=>te σ H fun x H1=>g x σ H1 D.nx
def zjB{tg e:Expr}{te:TE}{g:TG}(he:PE X e te)(hg:PG X tg g)(hs:swapsWithSole [tg] e pos.line X.env=pure false:=by rfl)(hw:swappedStores [tg] e X.env=pure none:=by rfl)
  (h1:(assignEach [tg] X.env).map (·.2)=[assign tg X.env]:=by rfl):PS X (.Assign [tg] e pos) (zpw te g):=by
 intro pins s σ H D I h;refine wpAny_Assign_stores (thn (he pins s σ H _ I h) fun v s1 ⟨x,H1,I1,r1,q1⟩=>?_) hs hw;rw [h1];exact thn (hg pins s1 σ H1 x v _ I1 r1 q1) fun _ s2 q=>q
def zm3{i:Nat}{x:Str}{e:Expr}{te:TE}{pos':Pos}(hN:X.N.Nodup)(hi:X.N[i]?=some x)(hx:Loc X.env.scope x)(he:PE X e te)(hs:swapsWith e (some (.Name x pos')) pos.line X.env=pure false:=by rfl)(hf:X.fn x=true\/X.env.scope.names.lookup x=some .local:=by first | exact .inl rfl | exact .inr rfl | assumption) :
  PS X (.Assign [.Name x pos'] e pos) (zpw te (zkr i)):=by
 intro pins s σ H D I h;refine wpAny_Assign_Name (thn (he pins s σ H _ I h) fun v s1 ⟨y,H1,I1,r1,q1⟩=>?_) hs;exact zc4 I1 hN hi hx r1 (fun s2 I2=>⟨_,H1,I2,q1⟩) hf
noncomputable def zvw(i j:Nat)(ta:TA):TS:=fun D σ H=>ta σ H fun vs H1=>∃v w,vs=[v,w]/\D.nx ((σ.set i (some v)).set j (some w)) H1
def zqQ{i j:Nat}{x y:Str}{a b:Expr}{ta:TA}{px py pt:Pos}{kt k2 pt2}(hc:X.calm=true)(hN:X.N.Nodup)(hi:X.N[i]?=some x)(hj:X.N[j]?=some y)(hij:i≠j)
  (hx:X.env.scope.names.lookup x=some .local) (hy:X.env.scope.names.lookup y=some .local) (ha:PA X [a,b] ta)
  (hw:swappedStores [.Tuple [.Name x px,.Name y py] kt pt] (.Tuple [a,b] k2 pt2) X.env=pure (some [x,y]))
  (hs:swapsWithSole [.Tuple [.Name x px,.Name y py] kt pt] (.Tuple [a,b] k2 pt2) pos.line X.env=pure false:=by rfl) :
  PS X (.Assign [.Tuple [.Name x px,.Name y py] kt pt] (.Tuple [a,b] k2 pt2) pos) (zvw i j ta):=by
 intro pins s σ H D I h;rw [exec_Assign_arm];refine yaa (yc1 ?_);rw [hs];refine yaa (yad ?_);rw [if_neg (by decide)];refine yaa (Tuple_ (thn (ha _ pins s σ H _ I h) fun us s1 ⟨vs,H1,I1,r1,q1⟩=>?_));obtain ⟨v,w,e1,q1⟩:=q1;subst e1
 obtain ⟨u1,u2,rfl,rv,rw'⟩:∃u1 u2,us=[u1,u2]/\zaJ v u1/\zaJ w u2:=by
  cases r1 with
  | cons p q =>
   cases q with
   | cons p' q' =>
    cases q';exact ⟨_,_,rfl,p,p'⟩
 refine yaR ?_ (by show 2<=sizeLine;decide);have I2:Inv X pins σ H1 { s1 with heap:=s1.heap.push { cls:=.type "tuple",data:=.seq [u1,u2].toArray } }:=I1.kept (t':=s1.toks) fun b o e=>yae _ e
 rw [hw];refine yaa (yad ?_);show wpAny (model X.prog X.w) X.A (do rule "assign.swapped-stores";let items ← unpackItems (.ref s1.heap.objs.size) 2 none;assignInOrder [fun v=>bindName X.env y v,fun v=>bindName X.env x v] items.reverse;pure Flow.next) _ _ _;refine yaa (ycC (yaa (unpackItems_tuple (items:=#[u1,u2]) (I.ok.hd hc) (IsTup.new s1.heap _) fun h' hx'=>?_)));have I3:=I2.kept (h':=h') (t':=s1.toks) fun b o e=>hx' b o (yar (yai e)) e
 show wpAny _ _ (assignInOrder [fun v=>bindName X.env y v,fun v=>bindName X.env x v] [u2,u1] >>= fun _=>pure Flow.next) _ _ _;refine yaa (ycJ (wpAny_bindName (zc4 I3 hN hj (.inl hy) rw' (fun s2 I4=>?_) (.inr hy))));refine ycJ (wpAny_bindName (zc4 I4 hN hi (.inl hx) rv (fun s3 I5=>assignInOrder_nil (yad ?_)) (.inr hx)));rw [List.set_comm _ _ (Ne.symm hij)] at I5;exact ⟨_,H1,I5,q1⟩
noncomputable def zxx(i:Nat)(te:TE)(ti:TIp):TS:=fun D σ H=>∃x,σ[i]?=some (some x)/\te σ H fun y H1=>ti x y H1 fun z H2=>D.nx (σ.set i (some z)) H2
def zqS{i:Nat}{x:Str}{e:Expr}{te:TE}{op:Operator}{ti:TIp}{pos':Pos}(hN:X.N.Nodup)(hi:X.N[i]?=some x)(hx:Loc X.env.scope x)(he:PE X e te)(ho:PIp X op ti)(hf:X.fn x=true\/X.env.scope.names.lookup x=some .local:=by first | exact .inl rfl | exact .inr rfl | assumption) :
  PS X (.AugAssign (.Name x pos') op e pos) (zxx i te ti):=by
 intro pins s σ H D I h;obtain ⟨v,e1,h⟩:=h;obtain ⟨m,hn,hl⟩:=I.loc
 have vis:Vis X.env.scope x:=by rcases hx with k | k;exact .inl k;exact .inr (.inl k)
 obtain ⟨u,r,l⟩:=hl i x v hi e1 vis;refine wpAny_AugAssign_Name ?_
 have go:wpAny (model X.prog X.w) X.A (eval e X.env) (fun w s₂=>wpAny (model X.prog X.w) X.A (inplaceOp op u w) (fun r s₃=>wpAny (model X.prog X.w) X.A (storeName X.env x r) (fun _=>SP X pins D .next) X.xe s₃) X.xe s₂) X.xe s:=by
  refine thn (he pins s σ H _ I h) fun w s1 ⟨y,H1,I1,r1,q1⟩=>?_
  refine thn (ho pins s1 σ H1 v y u w _ I1 r r1 q1) fun z s2 ⟨zv,H2,I2,r2,q2⟩=>?_
  exact zc4 I2 hN hi hx r2 (fun s3 I3=>⟨_,H2,I3,q2⟩) hf
 rcases l with ⟨hk,hm⟩ | ⟨hk,c,hc,hcell⟩
 ·exact wpAny_loadName_local I.ok.kind hk hn hm go
 ·rcases hk with hk | hk
  ·exact wpAny_loadName_cell I.ok.kind hk hc hcell go
  ·rcases hx with k | k
   ·have:X.env.scope.names.lookup x=some .free:=hk;rw [k] at this;cases this
   ·have:X.env.scope.names.lookup x=some .free:=hk;rw [k] at this;cases this
end
section
variable{X:Cx}{pos:Pos}
end
structure It where
 go:Nat->Hp->Prop
 yld:Nat->Hp->V->Hp->Prop
 stop:Nat->Hp->Prop
noncomputable def zk4(X:Cx)(pins:Z3)(H:Hp)(b:Addr):Prop :=
 H b=none/\b≠X.env.locals/\b ∉ X.fs/\(b∈X.ex\/X.s₀.heap.objs.size<=b)/\(∀x c,X.env.cells.lookup x=some c->c≠b)/\∀p∈X.pn++pins,p.1≠b
def Inv.fpOk{X:Cx}{pins:Z3}{σ:St}{H H':Hp}{s:Shared}{b:Addr}(I:Inv X pins σ H s)(hb:s.heap.objs.size<=b)(hn:H' b=none):zk4 X pins H' b:=by
 refine ⟨hn,yaX (yak I.lt hb),I.nofs hb,.inr (yao I.sz hb),fun x c e z=>?_,fun p hp z=>?_⟩
 ·obtain ⟨v,q⟩:=I.cell x c e;exact absurd (yak q.lt (by rw [z];exact hb)) (yaY _)
 ·exact absurd (yak (yai (I.pin p hp).1) (by rw [z];exact hb)) (yaY _)
structure Turn(P:Program)(w:World)(K:PySem.W.Frag)(tg:Expr)(J:It)(fp:List Addr)(it:Addr)(tn:Nat->Heap->Prop):Prop where
 mem:it∈fp
 obj:∀i h,tn i h->∀b∈fp,∃o,h.get? b=some o/\∀v,o.data≠.cell v
 keep:∀i h h',tn i h->(∀b∈fp,∀o,h.get? b=some o->h'.get? b=some o)->tn i h'
 item:∀(X:Cx),X.prog=P->X.w=w->X.K=K->X.calm=true->∀(i:Nat) (pins:Z3) (s:Shared) (σ:St) (H:Hp) (E:Z5),Inv X pins σ H s->(∀b∈fp,zk4 X pins H b)->tn i s.heap->J.go i H →
  wpAny (model P w) X.A (pyNext (.ref it)) (fun r s1=>∃u,r=some u ∧
   wpAny (model P w) X.A (letOwnedTupleGo tg (.ref it) u) (fun _ s2=>∃x H',Inv X pins σ H' s2/\zaJ x u/\J.yld i H x H'/\tn (i+1) s2.heap/\∀b∈fp,H' b=none) E s1) E s
 done:∀(X:Cx),X.prog=P->X.w=w->X.K=K->X.calm=true->∀(i:Nat) (pins:Z3) (s:Shared) (σ:St) (H:Hp) (E:Z5),Inv X pins σ H s->(∀b∈fp,zk4 X pins H b)->tn i s.heap->J.stop i H →
  wpAny (model P w) X.A (pyNext (.ref it)) (fun r s1=>r=none/\Inv X pins σ H s1) E s
 self:∀(A:Around) (i:Nat) (s:Shared) (Q:Z5) (E:Z5),tn i s.heap->Q (.ref it) s->wpAny (model P w) A (pyIter (.ref it)) Q E s
noncomputable abbrev TI:=St->Hp->(It->Hp->Prop)->Prop
noncomputable def PIE(X:Cx)(pins:Z3)(σ:St)(tg:Expr)(R:It->Hp->Prop)(itv:Value)(s2:Shared):Prop :=
 ∃(it:Addr) (fp:List Addr) (tn:Nat->Heap->Prop) (J:It) (H':Hp),itv=.ref it/\Inv X pins σ H' s2/\Turn X.prog X.w X.K tg J fp it tn/\tn 0 s2.heap/\(∀b∈fp,zk4 X pins H' b)/\R J H'
noncomputable def PI(X:Cx)(tg iter:Expr)(wi:TI):Prop :=
 ∀(pins:Z3) (s:Shared) (σ:St) (H:Hp) (R:It->Hp->Prop),Inv X pins σ H s->wi σ H R →
  wpAny (model X.prog X.w) X.A (eval iter X.env) (fun v s1=>wpAny (model X.prog X.w) X.A (pyIter v) (PIE X pins σ tg R) X.xe s1) X.xe s
def zoZ {M : Model} {A : Around} {E : Z5} {s : Shared} {tg : Expr} {it : Addr} {u : Value} {o : Obj} {n : String} {vs : Array Value} {Q : Unit -> Shared -> Prop} (ho : s.heap.get? it = some o) (hc : o.cls = .type n) (hd : o.data = .fields vs)
    (hn : ["enumerate", "zip", "dict_itemiterator", "dict_reverseitemiterator", "odict_iterator", "itertools.zip_longest", "itertools.pairwise"].contains n = false) (hQ : Q () s) : wpAny M A (letOwnedTupleGo tg (.ref it) u) Q E s := by
  unfold letOwnedTupleGo
  cases tg <;> first
    | exact yad hQ
    | (cases u <;> first
        | exact yad hQ
        | (refine yaa (wpAny_load ho ?_)
           rw [hc, hd];show wpAny M A (if (["enumerate", "zip", "dict_itemiterator", "dict_reverseitemiterator", "odict_iterator", "itertools.zip_longest", "itertools.pairwise"].contains n && vs[0]? == some (rawInt _)) = true then _ else _) Q E s;rw [if_neg (by intro h; rw [hn, Bool.false_and] at h; cases h)]
           exact yad hQ))
noncomputable def Itl(K:PySem.W.Frag)(a:Addr):It :=
 ⟨fun i H=>∃xs x,SqL K H a xs/\xs[i]?=some x,fun i H x H'=>H'=H/\∀xs,SqL K H a xs->xs[i]?=some x,fun i H=>∃xs,SqL K H a xs/\xs.length<=i⟩
noncomputable def Itt(K:PySem.W.Frag)(a:Addr):It :=
 ⟨fun i H=>∃xs x,SqT K H a xs/\xs[i]?=some x,fun i H x H'=>H'=H/\∀xs,SqT K H a xs->xs[i]?=some x,fun i H=>∃xs,SqT K H a xs/\xs.length<=i⟩
noncomputable def Itr(lo:Int)(n:Nat):It:=⟨fun i _=>i<n,fun i H x H'=>H'=H/\x=.int (lo+i),fun i _=>n<=i⟩
def ziX{P:Program}{w:World}{K:PySem.W.Frag}{tg:Expr}(a it:Addr):Turn P w K tg (Itl K a) [it] it (fun i h=>h.IsListIter it a i) where
 mem:=by simp
 obj:=fun i h st b hb=>by
  have e:b=it:=by simpa using hb
  subst e;obtain ⟨o,e,c,d⟩:=st;exact ⟨o,e,fun v z=>by rw [d] at z;cases z⟩
 keep:=fun i h h' st k=>st.at fun o e=>k it (by simp) o e
 item:=by
  intro X hP hw hK hc i pins s σ H E I hf st hg;subst hP hw hK;obtain ⟨xs,x,hq,hx⟩:=hg;obtain ⟨its,rv,p,hz⟩:=I.list hq;obtain ⟨u,hu,ru⟩:=rv.get hx;obtain ⟨f0,f1,f2,f3,f4,f5⟩:=hf it (by simp);refine wpAny_pyNext_list_item st p.isList (x:=u) (by simpa using hu) fun h' st' sb=>?_
  have I1:Inv X pins σ H { s with heap:=h' }:=I.turned (t':=s.toks) (fun b o hb e=>(sb.2 b hb).trans e) f0 f1 f3 f4 f5;obtain ⟨o,e,c,d⟩:=id st';exact ⟨u,rfl,zoZ (s:={ s with heap:=h' }) e c d (by decide) ⟨x,H,I1,ru,⟨rfl,fun ys hy=>by rw [I.list_inj hy hq];exact hx⟩,st',fun b hb=>(hf b hb).1⟩⟩
 done:=by
  intro X hP hw hK hc i pins s σ H E I hf st hg;subst hP hw hK;obtain ⟨xs,hq,hx⟩:=hg;obtain ⟨its,rv,p,hz⟩:=I.list hq;obtain ⟨f0,f1,f2,f3,f4,f5⟩:=hf it (by simp);have hl:=rv.length;exact wpAny_pyNext_list_end (I.ok.hd hc) st p.isList (by simp;omega) fun h' eb=>⟨rfl,I.turned (t':=s.toks) (fun b o hb e=>eb b o hb e) f0 f1 f3 f4 f5⟩
 self:=fun _ _ _ _ _ st h=>wpAny_pyIter_listiter st h
def zif{P:Program}{w:World}{K:PySem.W.Frag}{tg:Expr}(a it:Addr):Turn P w K tg (Itt K a) [it] it (fun i h=>h.IsTupleIter it a i) where
 mem:=by simp
 obj:=fun i h st b hb=>by
  have e:b=it:=by simpa using hb
  subst e;obtain ⟨o,e,c,d⟩:=st;exact ⟨o,e,fun v z=>by rw [d] at z;cases z⟩
 keep:=fun i h h' st k=>st.at fun o e=>k it (by simp) o e
 item:=by
  intro X hP hw hK hc i pins s σ H E I hf st hg;subst hP hw hK;obtain ⟨xs,x,hq,hx⟩:=hg;obtain ⟨its,rv,p,hz⟩:=I.tuple hq;obtain ⟨u,hu,ru⟩:=rv.get hx;obtain ⟨f0,f1,f2,f3,f4,f5⟩:=hf it (by simp);refine wpAny_pyNext_tuple_item st (show s.heap.IsTuple a its.toArray from p) (x:=u) (by simpa using hu) fun h' st' sb=>?_
  have I1:Inv X pins σ H { s with heap:=h' }:=I.turned (t':=s.toks) (fun b o hb e=>(sb.2 b hb).trans e) f0 f1 f3 f4 f5;obtain ⟨o,e,c,d⟩:=id st';exact ⟨u,rfl,zoZ (s:={ s with heap:=h' }) e c d (by decide) ⟨x,H,I1,ru,⟨rfl,fun ys hy=>by rw [I.tuple_inj hy hq];exact hx⟩,st',fun b hb=>(hf b hb).1⟩⟩
 done:=by
  intro X hP hw hK hc i pins s σ H E I hf st hg;subst hP hw hK;obtain ⟨xs,hq,hx⟩:=hg;obtain ⟨its,rv,p,hz⟩:=I.tuple hq;obtain ⟨f0,f1,f2,f3,f4,f5⟩:=hf it (by simp);have hl:=rv.length;exact wpAny_pyNext_tuple_end (I.ok.hd hc) st (show s.heap.IsTuple a its.toArray from p) (by simp;omega) fun h' eb=>⟨rfl,I.turned (t':=s.toks) (fun b o hb e=>eb b o hb e) f0 f1 f3 f4 f5⟩
 self:=fun _ _ _ _ _ st h=>wpAny_pyIter_tupleiter st h
def zig{P:Program}{w:World}{K:PySem.W.Frag}{tg:Expr}(it:Addr)(lo:Int)(n:Nat):Turn P w K tg (Itr lo n) [it] it (fun i h=>IsRangeIter h it (lo+(i:Nat)*1) ((n:Int)-(i:Nat)) 1) where
 mem:=by simp
 obj:=fun i h st b hb=>by
  have e:b=it:=by simpa using hb
  subst e
  exact ⟨_,st,fun v z=>by
   have z':Data.fields _=Data.cell v:=z
   cases z'⟩
 keep:=fun i h h' st k=>k it (by simp) _ st
 item:=by
  intro X hP hw hK hc i pins s σ H E I hf st hg;subst hP hw hK;obtain ⟨f0,f1,f2,f3,f4,f5⟩:=hf it (by simp);have W:=Walks.range (prog:=X.prog) (w:=X.w) (I.ok.hd hc) it lo 1 n;refine W.item i s _ _ hg st fun v h' tk hv st' kk=>?_
  obtain ⟨t,rfl⟩:=hv;have I1:Inv X pins σ H { s with heap:=h',toks:=tk }:=I.turned (fun b o hb e=>kk b o (by simpa using hb) e) f0 f1 f3 f4 f5;refine ⟨_,rfl,zoZ (s:={ s with heap:=h',toks:=tk }) (n:="range_iterator") st' rfl rfl (by decide) ⟨.int (lo+i),H,I1,⟨t,?_⟩,⟨rfl,rfl⟩,st',fun b hb=>(hf b hb).1⟩⟩;rw [Int.mul_one]
 done:=by
  intro X hP hw hK hc i pins s σ H E I hf st hg;subst hP hw hK;obtain ⟨f0,f1,f2,f3,f4,f5⟩:=hf it (by simp);exact wpAny_pyNext_range_end (I.ok.hd hc) st (by have:n<=i:=hg;omega) fun h' eb=>⟨rfl,I.turned (t':=s.toks) (fun b o hb e=>eb b o hb e) f0 f1 f3 f4 f5⟩
 self:=fun _ _ _ _ _ st h=>wpAny_pyIter_rangeiter st h
end L2
namespace L2
open PySem PySem.Spec PyProof.Rows
section
variable{X:Cx}{tg:Expr}
noncomputable def zue(K:PySem.W.Frag)(tl:TE):TI:=fun σ H R=>tl σ H fun x H1=>∃a,x=.ref a/\(∃xs,SqL K H1 a xs)/\R (Itl K a) H1
noncomputable def zyo(K:PySem.W.Frag)(tl:TE):TI:=fun σ H R=>tl σ H fun x H1=>∃a,x=.ref a/\(∃xs,SqT K H1 a xs)/\R (Itt K a) H1
def zon{l:Expr}{tl:TE}(hl:PE X l tl):PI X tg l (zue X.K tl):=by
 intro pins s σ H R I h;refine thn (hl pins s σ H _ I h) fun v s1 ⟨x,H1,I1,r1,q1⟩=>?_
 obtain ⟨a,e,⟨xs,hq⟩,q⟩:=q1;subst e;cases r1;obtain ⟨its,rv,p,hz⟩:=I1.list hq;refine ybV p.isList ?_;refine ⟨s1.heap.objs.size,[s1.heap.objs.size],_,_,H1,rfl,I1.kept (t':=s1.toks) fun b o e=>yae _ e,ziX a _,⟨_,yam _ rfl,rfl,rfl⟩,fun b hb=>?_,q⟩
 have e:b=s1.heap.objs.size:=by simpa using hb
 subst e;exact I1.fpOk (yal _) (I1.hok.fresh (yal _))
def zqT{l:Expr}{tl:TE}(hl:PE X l tl):PI X tg l (zyo X.K tl):=by
 intro pins s σ H R I h;refine thn (hl pins s σ H _ I h) fun v s1 ⟨x,H1,I1,r1,q1⟩=>?_
 obtain ⟨a,e,⟨xs,hq⟩,q⟩:=q1;subst e;cases r1;obtain ⟨its,rv,p,hz⟩:=I1.tuple hq;refine ycb (show s1.heap.IsTuple a its.toArray from p) ?_;refine ⟨s1.heap.objs.size,[s1.heap.objs.size],_,_,H1,rfl,I1.kept (t':=s1.toks) fun b o e=>yae _ e,zif a _,⟨_,yam _ rfl,rfl,rfl⟩,fun b hb=>?_,q⟩
 have e:b=s1.heap.objs.size:=by simpa using hb
 subst e;exact I1.fpOk (yal _) (I1.hok.fresh (yal _))
def zhC{pins:Z3}{σ:St}{H:Hp}{s:Shared}{R:It->Hp->Prop}{E:Z5}{lo hi:Int}{t u v:Tok}{tk:Nat}(I:Inv X pins σ H s)(h1:-(2 ^ 62)<=lo)(h2:lo<2 ^ 62)(h3:-(2 ^ 62)<=hi)(h4:hi<2 ^ 62)
  (q:R (Itr lo (hi-lo).toNat) H):wpAny (model X.prog X.w) X.A (pyIter (.ref s.heap.objs.size)) (PIE X pins σ tg R) E { s with heap:=s.heap.push { cls:=.type "range",data:=.fields #[.int lo t,.int hi u,.int 1 v] },toks:=tk }:=by
 refine wpAny_pyIter_range (IsRange.new ..) (small_one h1 h2 h3 h4) ?_;have I1:Inv X pins σ H { s with heap:=s.heap.push { cls:=.type "range",data:=.fields #[.int lo t,.int hi u,.int 1 v] },toks:=tk }:=I.kept fun b o e=>yae _ e
 refine ⟨(s.heap.push { cls:=.type "range",data:=.fields #[.int lo t,.int hi u,.int 1 v] }).objs.size,[(s.heap.push { cls:=.type "range",data:=.fields #[.int lo t,.int hi u,.int 1 v] }).objs.size],_,_,H,rfl,
  I1.kept (t':=tk) fun b o e=>yae _ e,zig _ lo (hi-lo).toNat,?_,fun b hb=>?_,q⟩
 ·have e1:lo+((0:Nat):Int)*1=lo:=by simp
  have e2:(((hi-lo).toNat:Nat):Int)-((0:Nat):Int)=Builtin.Range.rangeSize lo hi 1:=by rw [rangeSize_one];split<;>omega
  show IsRangeIter _ _ (lo+((0:Nat):Int)*1) ((((hi-lo).toNat:Nat):Int)-((0:Nat):Int)) 1;rw [e1,e2];exact yam _ rfl
 ·have e:b=(s.heap.push { cls:=.type "range",data:=.fields #[.int lo t,.int hi u,.int 1 v] }).objs.size:=by simpa using hb
  subst e;exact I1.fpOk (yal _) (I1.hok.fresh (yal _))
noncomputable def zud(ta:TA):TI:=fun σ H R=>ta σ H fun vs H1=>∃j:Int,vs=[.int j]/\-(2 ^ 62)<=j/\j<2 ^ 62/\R (Itr 0 j.toNat) H1
noncomputable def zuc(ta:TA):TI:=fun σ H R=>ta σ H fun vs H1=>∃i j:Int,vs=[.int i,.int j]/\(-(2 ^ 62)<=i/\i<2 ^ 62/\-(2 ^ 62)<=j/\j<2 ^ 62)/\R (Itr i (j-i).toNat) H1
def zjJ{a:Expr}{ta:TA}{p pos:Pos}(hg:Gl X "range")(hm:X.mg "range" = none)(ha:PA X [a] ta)(hs:starEach [a] X.env=[(false,eval a X.env)]:=by rfl):PI X tg (.Call (.Name "range" p) [a] [] pos) (zud ta):=by
 intro pins s σ H R I h;refine Call_ (zdH I hg hm boot_range (ya3 (thn (ha pos pins s σ H _ I h) fun us s1 ⟨vs,H1,I1,r1,q1⟩=>?_) hs rfl));obtain ⟨j,e,q1,q2,q⟩:=q1;subst e
 cases r1 with
 | cons r rr =>
  cases rr;obtain ⟨t,rfl⟩:=r;exact call_range_1 (zhC I1 (by omega) (by omega) q1 q2 (by simpa using q))
def zjI{a b:Expr}{ta:TA}{p pos:Pos}(hg:Gl X "range")(hm:X.mg "range" = none)(ha:PA X [a,b] ta)(hs:starEach [a,b] X.env=[(false,eval a X.env),(false,eval b X.env)]:=by rfl)(hs2:starEach [b] X.env=[(false,eval b X.env)]:=by rfl) :
  PI X tg (.Call (.Name "range" p) [a,b] [] pos) (zuc ta):=by
 intro pins s σ H R I h;refine Call_ (zdH I hg hm boot_range (ya3 (thn (ha pos pins s σ H _ I h) fun us s1 ⟨vs,H1,I1,r1,q1⟩=>?_) (by rw [hs,hs2]) (by rw [hs2];rfl)));obtain ⟨i,j,e,⟨q1,q2,q3,q4⟩,q⟩:=q1;subst e
 cases r1 with
 | cons r rr =>
  cases rr with
  | cons r' rr =>
   cases rr;obtain ⟨t,rfl⟩:=r;obtain ⟨t',rfl⟩:=r';exact call_range_2 (zhC I1 q1 q2 q3 q4 q)
noncomputable def zxw(wi:TI)(g:TG)(tb:TS):TS:=fun D σ H=>wi σ H fun J H1=>∃W:Nat->Nat->St->Hp->Prop,(∃m,W 0 m σ H1)/\∀i m σ H,W i m σ H →
 (J.stop i H/\D.nx σ H)\/(J.go i H/\∃N:St->Hp->Prop,(∀σ' H',N σ' H'->∃m',m'<m/\W (i+1) m' σ' H')/\∀x H',J.yld i H x H'->g x σ H' fun σ2 H2=>tb { D with nx:=N,ct:=N,bk:=D.nx } σ2 H2)
noncomputable def zf5(fp:List Addr)(h:Heap):List (Addr×Obj):=fp.filterMap fun b=>(h.get? b).map fun o=>(b,o)
def zcv{fp:List Addr}{h:Heap}{b:Addr}{o:Obj}(hb:b∈fp)(e:h.get? b=some o):(b,o)∈zf5 fp h:=ybM.mpr ⟨b,hb,by rw [e];rfl⟩
def zjU{fp:List Addr}{h:Heap}{p:Addr×Obj}(hp:p∈zf5 fp h):p.1∈fp/\h.get? p.1=some p.2:=by
 obtain ⟨b,hb,e⟩:=ybM.mp hp
 cases q:h.get? b with
 | none=>rw [q] at e;cases e
 | some o =>
  rw [q] at e;have e':(b,o)=p:=Option.some.inj e;subst e';exact ⟨hb,q⟩
def Inv.pinned{pins:Z3}{σ:St}{H:Hp}{s:Shared}{fp:List Addr}(I:Inv X pins σ H s)(hf:∀b∈fp,zk4 X pins H b)(ho:∀b∈fp,∃o,s.heap.get? b=some o/\∀v,o.data≠.cell v):Inv X (pins++zf5 fp s.heap) σ H s :=
 I.pins_of fun p hp=>(ybj.mp hp).elim (fun z=>I.pin p (yaC _ z)) fun z=>by
  obtain ⟨hb,e⟩:=zjU z;obtain ⟨f0,f1,f2,_⟩:=hf p.1 hb;obtain ⟨o,e',d⟩:=ho p.1 hb;rw [e] at e';cases e';exact ⟨e,f0,f1,f2,d⟩
def Inv.unpinned{pins pl:Z3}{σ:St}{H:Hp}{s:Shared}(I:Inv X (pins++pl) σ H s):Inv X pins σ H s:=I.pins_of fun p hp=>I.pin p (yaC _ (List.mem_append_left _ hp))
def zqR{iter:Expr}{body:List Stmt}{wi:TI}{g:TG}{tb:TS}{pos:Pos}(hp:PassesOwn (model X.prog X.w) X.A X.env X.xe)(hc:X.calm=true)(hi:PI X tg iter wi)(hg:PG X tg g)(hb:PSs X body tb)
  (hs:∀x,foldedSetIterable iter X.env x=pure x:=by intro _;rfl):PS X (.For tg iter body [] pos) (zxw wi g tb):=by
 intro pins s σ H D I h;refine wpAny_For (thn (hi pins s σ H _ I h) fun v s1 h1=>thn h1 fun itv s2 h2=>?_) hs;obtain ⟨it,fp,tn,J,H2,e,I2,T,st2,f2,W,⟨m0,w0⟩,turn⟩:=h2;subst e;have stat:∀{H':Hp},(∀b∈fp,H' b=none)->∀b∈fp,zk4 X pins H' b:=fun hn b hb=>⟨hn b hb,(f2 b hb).2⟩
 refine codeAny_forLoop_any (fun n s'=>∃i σ' H',Inv X pins σ' H' s'/\tn i s'.heap/\(∀b∈fp,H' b=none)/\W i n σ' H') ?_ m0 ⟨0,σ,H2,I2,st2,fun b hb=>(f2 b hb).1,w0⟩;rintro n s3 ⟨i,σ3,H3,I3,st3,fr3,w3⟩
 rcases turn i n σ3 H3 w3 with ⟨stop,qn⟩ | ⟨go,N,hN,step⟩
 ·refine ycc hp (thn (T.done X rfl rfl rfl hc i pins s3 σ3 H3 X.xe I3 (stat fr3) st3 stop) fun r s4 ⟨hr,I4⟩=>?_);subst hr;exact wpAny_execs_nil ⟨σ3,H3,I4,qn⟩
 ·refine ycc hp (thn (T.item X rfl rfl rfl hc i pins s3 σ3 H3 X.xe I3 (stat fr3) st3 go) fun r s4 ⟨u,hr,h4⟩=>?_);subst hr;refine ycc hp (thn h4 fun _ s5 ⟨x,H5,I5,r5,y5,st5,fr5⟩=>?_);have I5':=I5.pinned (stat fr5) (T.obj _ _ st5);refine ycc hp (thn (hg _ s5 σ3 H5 x u _ I5' r5 (step x H5 y5)) fun _ s6 ⟨σ6,H6,I6,q6⟩=>?_);refine ycc hp (thn (hb _ s6 σ6 H6 _ I6 q6) fun f s7 q7=>?_)
  have again:∀{σ7:St} {H7:Hp},Inv X (pins++zf5 fp s5.heap) σ7 H7 s7->N σ7 H7->∃m,m<n/\∃i σ' H',Inv X pins σ' H' s7/\tn i s7.heap/\(∀b∈fp,H' b=none)/\W i m σ' H':=fun {σ7 H7} I7 n7=>by
   obtain ⟨m',hm,w7⟩:=hN σ7 H7 n7;refine ⟨m',hm,i+1,σ7,H7,I7.unpinned,T.keep _ _ _ st5 fun b hb o e=>(I7.pin (b,o) (yaC _ (yaC _ (zcv hb e)))).1,fun b hb=>?_,w7⟩;obtain ⟨o,e,d⟩:=T.obj _ _ st5 b hb;exact (I7.pin (b,o) (yaC _ (yaC _ (zcv hb e)))).2.1
  cases f with
  | next=>obtain ⟨σ7,H7,I7,n7⟩:=q7;exact again I7 n7
  | cont=>obtain ⟨σ7,H7,I7,n7⟩:=q7;exact again I7 n7
  | brk=>obtain ⟨σ7,H7,I7,q7⟩:=q7;exact ⟨σ7,H7,I7.unpinned,q7⟩
  | ret v=>obtain ⟨x7,σ7,H7,I7,r7,q7⟩:=q7;exact ⟨x7,σ7,H7,I7.unpinned,r7,q7⟩
end
end L2
namespace L2
open PySem PySem.Spec PyProof.Rows
noncomputable abbrev R2:=V->V->Hp->VK->Prop
noncomputable def OpR(X:Cx)(f:Value->Value->Sem Value)(r:R2):Prop :=
 ∀(pins:Z3) (s:Shared) (σ:St) (H:Hp) (x y:V) (v u:Value) (Q:VK),Inv X pins σ H s->zaJ x v->zaJ y u->r x y H Q →
  wpAny (model X.prog X.w) X.A (f v u) (EP X pins σ Q) X.xe s
noncomputable def UnR(X:Cx)(f:Value->Sem Value)(r:V->Hp->VK->Prop):Prop :=
 ∀(pins:Z3) (s:Shared) (σ:St) (H:Hp) (x:V) (v:Value) (Q:VK),Inv X pins σ H s->zaJ x v->r x H Q →
  wpAny (model X.prog X.w) X.A (f v) (EP X pins σ Q) X.xe s
noncomputable def zdC(X:Cx)(f:Value)(r:List V->Hp->VK->Prop):Prop :=
 ∀(pins:Z3) (s:Shared) (σ:St) (H:Hp) (xs:List V) (us:List Value) (Q:VK),Inv X pins σ H s->Vals xs us->r xs H Q →
  wpAny (model X.prog X.w) X.A (call f us) (EP X pins σ Q) X.xe s
noncomputable def tOp(r:R2)(ta tb:TE):TE:=fun σ H Q=>ta σ H fun x H1=>tb σ H1 fun y H2=>r x y H2 Q
noncomputable def tUn(r:V->Hp->VK->Prop)(ta:TE):TE:=fun σ H Q=>ta σ H fun x H1=>r x H1 Q
noncomputable def rI(C:Int->Int->Prop)(g:Int->Int->V):R2:=fun x y H Q=>∃i j,x=.int i/\y=.int j/\C i j/\Q (g i j) H
noncomputable def rI0(g:Int->Int->V):R2:=fun x y H Q=>∃i j,x=.int i/\y=.int j/\Q (g i j) H
noncomputable def rU(g:Int->V):V->Hp->VK->Prop:=fun x H Q=>∃i,x=.int i/\Q (g i) H
section
variable{X:Cx}{a b c:Expr}{ta tb tc:TE}{pos:Pos}
def zur(ha:PE X a ta)(hb:PE X b tb){pins:Z3}{s:Shared}{σ:St}{H:Hp}{R:V->V->Hp->Prop}(I:Inv X pins σ H s)
  (h:ta σ H fun x H1=>tb σ H1 fun y H2=>R x y H2) {Q:Z5} {f:Value->Value->Sem Value}
  (hf:∀v u s2 x y H2,Inv X pins σ H2 s2->zaJ x v->zaJ y u->R x y H2->wpAny (model X.prog X.w) X.A (f v u) Q X.xe s2) :
  wpAny (model X.prog X.w) X.A (eval a X.env) (fun v s₁=>wpAny (model X.prog X.w) X.A (eval b X.env) (fun u s₂=>wpAny (model X.prog X.w) X.A (f v u) Q X.xe s₂) X.xe s₁) X.xe s:=by
 refine thn (ha pins s σ H _ I h) fun v s1 ⟨x,H1,I1,r1,q1⟩=>?_
 refine thn (hb pins s1 σ H1 _ I1 q1) fun u s2 ⟨y,H2,I2,r2,q2⟩=>?_
 exact hf v u s2 x y H2 I2 r1 r2 q2
def zqX{op:Operator}{r:R2}(ho:OpR X (binaryOp op) r)(ha:PE X a ta)(hb:PE X b tb):PE X (.BinOp a op b pos) (tOp r ta tb):=by
 intro pins s σ H Q I h;exact wpAny_BinOp (zur ha hb I h fun v u s2 x y H2 I2 rx ry q=>ho pins s2 σ H2 x y v u Q I2 rx ry q)
def ztC{op:UnaryOp}{r:V->Hp->VK->Prop}(ho:UnR X (unaryOp op) r)(ha:PE X a ta):PE X (.UnaryOp op a pos) (tUn r ta):=by
 intro pins s σ H Q I h;exact UnaryOp_ (thn (ha pins s σ H _ I h) fun v s1 ⟨x,H1,I1,r1,q1⟩=>ho pins s1 σ H1 x v Q I1 r1 q1)
def opI{f:Value->Value->Sem Value}{C:Int->Int->Prop}{g:Int->Int->Int}
  (rule:∀(i j:Int) (t u:Tok) (s:Shared) (Q:Z5) (E:Z5),C i j->Q (.int (g i j) s.toks) { s with toks:=s.toks+1 }->wpAny (model X.prog X.w) X.A (f (.int i t) (.int j u)) Q E s) :
  OpR X f (rI C fun i j=>.int (g i j)):=by
 intro pins s σ H x y v u Q I rx ry h;obtain ⟨i,j,rfl,rfl,hc,q⟩:=h;obtain ⟨t,rfl⟩:=rx;obtain ⟨t',rfl⟩:=ry;exact rule i j t t' s _ _ hc ⟨.int (g i j),H,I.tok _,⟨_,rfl⟩,q⟩
def zvF{f:Value->Value->Sem Value}{g:Int->Int->Int}
  (rule:∀(i j:Int) (t u:Tok) (s:Shared) (Q:Z5) (E:Z5),Q (.int (g i j) s.toks) { s with toks:=s.toks+1 }->wpAny (model X.prog X.w) X.A (f (.int i t) (.int j u)) Q E s) :
  OpR X f (rI0 fun i j=>.int (g i j)):=by
 intro pins s σ H x y v u Q I rx ry h;obtain ⟨i,j,rfl,rfl,q⟩:=h;obtain ⟨t,rfl⟩:=rx;obtain ⟨t',rfl⟩:=ry;exact rule i j t t' s _ _ ⟨.int (g i j),H,I.tok _,⟨_,rfl⟩,q⟩
def zst{f:Value->Value->Sem Value}{g:Int->Int->Bool}
  (rule:∀(i j:Int) (t u:Tok) (s:Shared) (Q:Z5) (E:Z5),Q (.bool (g i j)) s->wpAny (model X.prog X.w) X.A (f (.int i t) (.int j u)) Q E s) :
  OpR X f (rI0 fun i j=>.bl (g i j)):=by
 intro pins s σ H x y v u Q I rx ry h;obtain ⟨i,j,rfl,rfl,q⟩:=h;obtain ⟨t,rfl⟩:=rx;obtain ⟨t',rfl⟩:=ry;exact rule i j t t' s _ _ ⟨.bl (g i j),H,I,rfl,q⟩
noncomputable def zyD(i j:Int):Prop:=0<j/\j<1073741824
noncomputable def zuK(i j:Int):Prop:=(-(2 ^ 64)<i/\i<2 ^ 64)\/(-(2 ^ 64)<j/\j<2 ^ 64)
def zuK.ok{i j:Int}(h:zuK i j):IntMulOk i j:=by
 rcases h with ⟨h1,h2⟩ | ⟨h1,h2⟩
 ·exact .of_left (intBits_le_64 h1 h2)
 ·exact .of_right (intBits_le_64 h1 h2)
def zrd:OpR X (binaryOp .Add) (rI0 fun i j=>.int (i+j)):=zvF fun _ _ _ _ _ _ _ q=>add_int q
def zq8:OpR X (binaryOp .Sub) (rI0 fun i j=>.int (i-j)):=zvF fun _ _ _ _ _ _ _ q=>sub_int q
def zq9:OpR X (binaryOp .Mult) (rI zuK fun i j=>.int (i*j)):=opI fun _ _ _ _ _ _ _ hc q=>mul_int q hc.ok
def zov:OpR X (binaryOp .FloorDiv) (rI zyD fun i j=>.int (i / j)):=opI fun i j _ _ _ _ _ hc q=>by
 have h1:(0:Int)<j:=hc.1;have h2:j<1073741824:=hc.2;exact floordiv_int (by omega) (by rw [Int.fdiv_eq_ediv_of_nonneg i (by omega)];exact q) (.inl (PyProof.noPylong_small (by omega)))
def zra:OpR X (binaryOp .Mod) (rI (fun _ j=>0<j) fun i j=>.int (i % j)):=opI fun i j _ _ _ _ _ hc q=>by
 have h1:(0:Int)<j:=hc;exact mod_int' (by omega) (by rw [Int.fmod_eq_emod_of_nonneg i (by omega)];exact q)
def unI{f:Value->Sem Value}{g:Int->Int}
  (rule:∀(i:Int) (t:Tok) (s:Shared) (Q:Z5) (E:Z5),Q (.int (g i) s.toks) { s with toks:=s.toks+1 }->wpAny (model X.prog X.w) X.A (f (.int i t)) Q E s) :
  UnR X f (rU fun i=>.int (g i)):=by
 intro pins s σ H x v Q I rx h;obtain ⟨i,rfl,q⟩:=h;obtain ⟨t,rfl⟩:=rx;exact rule i t s _ _ ⟨.int (g i),H,I.tok _,⟨_,rfl⟩,q⟩
def zpL:UnR X (unaryOp .USub) (rU fun i=>.int (-i)):=unI fun _ _ _ _ _ q=>neg_int q
end
section
variable{X:Cx}{a b c:Expr}{ta tb tc:TE}{pos:Pos}
def zno{pins:Z3}{σ:St}{H:Hp}{s:Shared}{Q:VK}{k k':Bool}(I:Inv X pins σ H s)(q:Q (.bl k) H)(e:k=k'):EP X pins σ Q (.bool k') s:=by
 subst e;exact ⟨.bl k,H,I,rfl,q⟩
def ztG:OpR X (compareOp .Lt) (rI0 fun i j=>.bl (decide (i<j))):=zst fun _ _ _ _ _ _ _ q=>lt_int q
def ztH:OpR X (compareOp .LtE) (rI0 fun i j=>.bl (decide (i<=j))):=zst fun _ _ _ _ _ _ _ q=>le_int q
def ztI:OpR X (compareOp .Gt) (rI0 fun i j=>.bl (decide (j<i))):=zst fun _ _ _ _ _ _ _ q=>gt_int q
def ztJ:OpR X (compareOp .GtE) (rI0 fun i j=>.bl (decide (j<=i))):=zst fun _ _ _ _ _ _ _ q=>ge_int q
def zrb:OpR X (compareOp .Is) (fun x y H Q=>y=.non/\Q (.bl (decide (x=.non))) H):=by
 intro pins s σ H x y v u Q I rx ry h;obtain ⟨rfl,q⟩:=h;cases ry;refine is_none_gen (zno I q ?_)
 cases x<;>first
  | (cases rx;rfl)
  | (obtain ⟨t,rfl⟩:=rx;rfl)
def zou:OpR X (compareOp .IsNot) (fun x y H Q=>y=.non/\Q (.bl (!decide (x=.non))) H):=by
 intro pins s σ H x y v u Q I rx ry h;obtain ⟨rfl,q⟩:=h;cases ry;refine isnot_none_gen (zno I q ?_)
 cases x<;>first
  | (cases rx;rfl)
  | (obtain ⟨t,rfl⟩:=rx;rfl)
def zjM{op:CmpOp}{r:R2}(ho:OpR X (compareOp op) r)(ha:PE X a ta)(hb:PE X b tb)(hm:behindInMarks op b=false):PE X (.Compare a [op] [b] pos) (tOp r ta tb):=by
 intro pins s σ H Q I h;exact wpAny_Compare1 (zur ha hb I h fun v u s2 x y H2 I2 rx ry q=>ho pins s2 σ H2 x y v u Q I2 rx ry q) hm
noncomputable def znE(t:TE):TT:=fun σ H Q=>t σ H fun x H'=>∃k,x=.bl k/\Q k H'
def zjx{op:CmpOp}{r:R2}(ho:OpR X (compareOp op) r)(ha:PE X a ta)(hb:PE X b tb)(hm:behindInMarks op b=false):PT X (.Compare a [op] [b] pos) (znE (tOp r ta tb)):=by
 intro pins s σ H Q I h
 refine wpAny_isTrue_Compare1 (thn (ha pins s σ H _ I h) fun v s1 ⟨x,H1,I1,r1,q1⟩=>thn (hb pins s1 σ H1 _ I1 q1) fun u s2 ⟨y,H2,I2,r2,q2⟩ =>
  thn (ho pins s2 σ H2 x y v u _ I2 r1 r2 q2) fun c s3 ⟨z,H3,I3,r3,k,e,q3⟩=>?_) hm
 subst e;cases r3;exact ya9 ⟨H3,I3,q3⟩
noncomputable def zi8(r r':R2)(ta tb tc:TE):TE:=fun σ H Q=>ta σ H fun x H1=>tb σ H1 fun y H2=>r x y H2 fun z H3=>∃k,z=.bl k ∧
 (if k=true then tc σ H3 fun w' H4=>r' y w' H4 Q else Q (.bl false) H3)
def zlJ{op op':CmpOp}{r r':R2}(ho:OpR X (compareOp op) r)(ho':OpR X (compareOp op') r')(ha:PE X a ta)(hb:PE X b tb)(hc:PE X c tc)
  (hm:lastMarks [op,op'] [b,c]=false:=by with_unfolding_all rfl):PE X (.Compare a [op,op'] [b,c] pos) (zi8 r r' ta tb tc):=by
 intro pins s σ H Q I h
 refine Compare_chain (thn (ha pins s σ H _ I h) fun v s1 ⟨x,H1,I1,r1,q1⟩=>chain_link (thn (hb pins s1 σ H1 _ I1 q1) fun u s2 ⟨y,H2,I2,r2,q2⟩ =>
  thn (ho pins s2 σ H2 x y v u _ I2 r1 r2 q2) fun d s3 ⟨z,H3,I3,r3,k,e,q3⟩=>?_)) hm
 subst e;cases r3;refine ya9 ?_
 cases k with
 | false=>exact ite_ff ⟨.bl false,H3,I3,rfl,q3⟩
 | true=>exact ite_tt (chain_last (thn (hc pins s3 σ H3 _ I3 q3) fun w' s4 ⟨z',H4,I4,r4,q4⟩=>ho' pins s4 σ H4 y z' u w' Q I4 r2 r4 q4))
def zls{op op':CmpOp}{r r':R2}(ho:OpR X (compareOp op) r)(ho':OpR X (compareOp op') r')(ha:PE X a ta)(hb:PE X b tb)(hc:PE X c tc)
  (hm:lastMarks [op,op'] [b,c]=false:=by with_unfolding_all rfl):PT X (.Compare a [op,op'] [b,c] pos) (znE (zi8 r r' ta tb tc)):=by
 intro pins s σ H Q I h
 refine isTrue_chain (thn (ha pins s σ H _ I h) fun v s1 ⟨x,H1,I1,r1,q1⟩=>test_link (thn (hb pins s1 σ H1 _ I1 q1) fun u s2 ⟨y,H2,I2,r2,q2⟩ =>
  thn (ho pins s2 σ H2 x y v u _ I2 r1 r2 q2) fun d s3 ⟨z,H3,I3,r3,k,e,q3⟩=>?_)) hm
 subst e;cases r3;refine ya9 ?_
 cases k with
 | false =>
  obtain ⟨k',e',q'⟩:=q3;cases e';exact ite_ff ⟨H3,I3,q'⟩
 | true =>
  refine ite_tt (test_last (thn (hc pins s3 σ H3 _ I3 q3) fun w' s4 ⟨z',H4,I4,r4,q4⟩=>thn (ho' pins s4 σ H4 y z' u w' _ I4 r2 r4 q4) fun d' s5 ⟨z2,H5,I5,r5,k2,e2,q5⟩=>?_));subst e2;cases r5;exact ya9 ⟨H5,I5,q5⟩
def zgd:(sizeLine:Nat)<2 ^ 63:=by rw [ybO];decide
def ziu:OpR X (binaryOp .Add) (fun x y H Q=>∃i j,x=.str i/\y=.str j/\i.length+j.length<=sizeLine/\Q (.str (i++j)) H):=by
 intro pins s σ H x y v u Q I rx ry h;obtain ⟨i,j,rfl,rfl,hz,q⟩:=h;obtain ⟨t,rfl⟩:=rx;obtain ⟨t',rfl⟩:=ry;exact add_str (fun t' tk=>⟨.str (i++j),H,I.tok _,⟨_,rfl⟩,q⟩) hz
def zfK{x:V}{us:List Value}(r:Vals [x] us):∃u,us=[u]/\zaJ x u:=by
 cases r with
 | cons r1 r2=>cases r2;exact ⟨_,rfl,r1⟩
end
end L2
namespace L2
open PySem PySem.Spec PyProof.Rows
structure ObjM(h:Heap)(x dx C:Addr)(mA:Z6):Prop where
 obj:h.get? x=some (PySem.W.instObj C dx)
 ns:h.Ns1 dx mA
 ne:dx≠x
def zj2{h:Heap}{dx:Addr}{mA:Z6}(n:h.Ns1 dx mA):∃od,h.get? dx=some od/\∀name,PySem.W.lookIn name od=some (mA name):=by
 obtain ⟨o,es,ep,ho,hd,hk,_,hm⟩:=n;refine ⟨o,ho,fun name=>?_⟩;have e:=hm name;unfold nsFind findBy at e;rw [<-Array.find?_toList] at e;unfold PySem.W.lookIn;rw [hd];dsimp only;split
 ·rename_i y q;rw [q] at e;exact congrArg some e
 ·rename_i q;rw [q] at e
  have a:es.toList.any (·.refKey)=false:=by
   rw [List.any_eq_false];intro y hy;obtain ⟨z,t,hkey⟩:=hk y (Array.mem_toList_iff.mp hy);simp [DictEntry.refKey,hkey]
  have a':¬ es.toList.any (·.refKey)=true:=by rw [a];exact ya1
  rw [if_neg a'];exact congrArg some e
def ObjM.look{h:Heap}{x dx C:Addr}{mA:Z6}(I:ObjM h x dx C mA):∃od,PySem.W.InstAt h x (PySem.W.instObj C dx) C (some od)/\∀name,PySem.W.lookIn name od=some (mA name) :=
 let ⟨od,ho,hl⟩:=zj2 I.ns
 ⟨od,⟨I.obj,rfl,rfl,ho⟩,hl⟩
section
variable{prog:Program}{w:World}{A:Around}{E:Z5}{s:Shared}{K:PySem.W.Frag}{x dx C f:Addr}{mA:Z6}{name:Str}{v:Value}
def zo0{expr:Bool}{Q:Z5}(X:K.In s.heap)(I:ObjM s.heap x dx C mA)(hg:PySem.W.plainGet K C name=true)(hh:PySem.W.hasDictIn K C=true)
  (ha:PySem.W.findIn K (.ref C) name=some none) (hv:mA name=some v) (hv':PySem.W.handedIn v=true) (h:Q v { s with toks:=s.toks+1 }) :
  wpAny (model prog w) A (getAttr (.ref x) name expr) Q E s:=by
 obtain ⟨od,J,hl⟩:=I.look;exact PySem.W.get_value X J (ycF hg).1 (PySem.W.findObj_own hh ha rfl (by rw [hl,hv])) hv' h
def zmo{pl:Sem Bool}{Q:Value×List Value->Shared->Prop}(X:K.In s.heap)(I:ObjM s.heap x dx C mA)(hg:PySem.W.plainGet K C name=true)
  (hf:PySem.W.findIn K (.ref C) name=some (some (.ref f))) (ht:PySem.W.isFn K (.ref f)=true) (hv:mA name=none) (h:Q (.ref f,[.ref x]) s) :
  wpAny (model prog w) A (getMethod (.ref x) name pl) Q E s:=by
 obtain ⟨od,J,hl⟩:=I.look;exact PySem.W.method_fn X J (ycF hg).1 (ycF hg).2 hf (ycm.mp ht) (by show (PySem.W.lookIn name od).map (·.isSome)=some false;rw [hl,hv];rfl) h
def zn1{ns:List Str}{Q:Unit->Shared->Prop}(X:K.In s.heap)(I:ObjM s.heap x dx C mA)
  (hs:PySem.W.findIn K (.ref C) "__setattr__" = some (some (.builtin "object.__setattr__"))) (hp:PySem.W.plainOver K C=true) (ht:PySem.W.takerIn K C name=some none) (hh:PySem.W.hasDictIn K C=true)
  (hw:PySem.Within mA ns) (hsz:ns.length<=sizeLine)
  (h:∀h',ObjM h' x dx C (fun y=>if y=name then some v else mA y)->Heap.SameBut dx s.heap h'->Q () { s with heap:=h',toks:=s.toks+2 }) :
  wpAny (model prog w) A (setAttr (.ref x) name v) Q E s:=by
 obtain ⟨od,J,hl⟩:=I.look;refine PySem.W.set_plain X J hs (PySem.W.osa_open (s:={ s with toks:=s.toks+1 }) (r:=none) X J hp ht fun b=>?_);obtain ⟨cd,hc,hd'⟩:=PySem.W.any_some hh;have hx:s.heap.get? x=some ⟨.ref C,some dx,.plain,#[]⟩:=I.obj;refine yaa (yad (yaa (yaa (wpAny_loadPart hx (yaa (PySem.W.Looks.here (s:={ s with toks:=s.toks+1 }) (PySem.W.looks_clsIn X hc) ?_))))));rw [hd'];refine yad (a:=some dx) (yaa (yad (yaa ?_)));refine wpAny_nsSet1 (s:={ s with toks:=s.toks+1 }) I.ns fun h' hn2 hs2=>?_
 obtain ⟨oD,esD,epD,hoD,hdD,hcD⟩:=hn2.count (PySem.Within.cons name v hw);refine yaa (wpAny_lookBehind hoD (by rw [hdD];exact pastItsLine_dict (yao hcD (by rw [yaj];omega))) ?_);exact yad (h _ ⟨(hs2.2 _ (Ne.symm I.ne)).trans I.obj,hn2,I.ne⟩ hs2)
def zl3{R:Result->Shared->Prop}{vs:List Value}{kw:List (Str×Value)}(X:K.In s.heap)(hm:PySem.W.makesIn K C=true)
  (hi:PySem.W.findIn K (.ref C) "__init__" = some (some (.ref f))) (hf:PySem.W.typeIn K (.ref f)=some (.type "function"))
  (h:codeAny (model prog w) (A.under (.builtin "type.__call__" ⟨.ref C::vs,kw⟩)) (.call (.ref f) ⟨.ref (s.heap.objs.size+1)::vs,kw⟩) (PySem.W.InitBack (s.heap.objs.size+1) R)
   { s with heap:=(s.heap.push PySem.W.emptyDict).push (PySem.W.instObj C s.heap.objs.size) }) :
  codeAny (model prog w) A (.call (.ref C) ⟨vs,kw⟩) R s:=by
 obtain ⟨hh,g,d,t,os⟩:=s;exact PySem.W.make_core (PySem.W.makes_of X hm) (PySem.W.looks_findIn X hi) (fun self=>PySem.W.bind_fn X self hf) (.inl rfl) h
end
noncomputable def zcK(f:Str)(v:V):List (Str×V)->List (Str×V)
 | []=>[(f,v)]
 | (g,x)::r=>if g=f then (g,v)::r else (g,x)::zcK f v r
theorem zed(f g:Str)(v:V):∀fs:List (Str×V),(zcK f v fs).lookup g=if g=f then some v else fs.lookup g
 | []=>by
  show List.lookup g [(f,v)]=_
  by_cases h:g=f
  ·have hb:(g == f)=true:=ycm.mpr h;simp only [List.lookup,hb,if_pos h]
  ·have hb:(g == f)=false:=ya2.mpr h;simp only [List.lookup,hb,if_neg h]
 | (k,x)::r=>by
  have ih:=zed f g v r;rw [show zcK f v ((k,x)::r)=(if k=f then (k,v)::r else (k,x)::zcK f v r) from rfl]
  by_cases hk:k=f
  ·rw [if_pos hk]
   by_cases h:g=k
   ·have hb:(g == k)=true:=ycm.mpr h;simp only [List.lookup,hb,if_pos (h.trans hk)]
   ·have hb:(g == k)=false:=ya2.mpr h;simp only [List.lookup,hb,if_neg (fun e:g=f=>h (e.trans hk.symm))]
  ·rw [if_neg hk]
   by_cases h:g=k
   ·have hb:(g == k)=true:=ycm.mpr h;simp only [List.lookup,hb,if_neg (fun e:g=f=>hk (h.symm.trans e))]
   ·have hb:(g == k)=false:=ya2.mpr h;simp only [List.lookup,hb];exact ih
theorem zeh(f:Str)(v:V):∀fs:List (Str×V),f∈(zcK f v fs).map (·.1)/\∀g,g∈fs.map (·.1)->g∈(zcK f v fs).map (·.1)
 | []=>⟨by simp [zcK],fun g h=>by simp at h⟩
 | (k,x)::r=>by
  obtain ⟨i1,i2⟩:=zeh f v r;rw [show zcK f v ((k,x)::r)=(if k=f then (k,v)::r else (k,x)::zcK f v r) from rfl]
  by_cases hk:k=f
  ·rw [if_pos hk];subst hk;exact ⟨by simp,fun g h=>by simpa using h⟩
  ·rw [if_neg hk];refine ⟨?_,fun g h=>?_⟩
   ·rw [yau];exact yav _ i1
   ·rw [yau] at h ⊢
    rcases yap.mp h with e | e
    ·exact yap.mpr (.inl e)
    ·exact yav _ (i2 g e)
theorem zef(f:Str)(v:V):∀fs:List (Str×V),(zcK f v fs).length<=fs.length+1
 | []=>by simp [zcK]
 | (k,x)::r=>by
  have ih:=zef f v r;rw [show zcK f v ((k,x)::r)=(if k=f then (k,v)::r else (k,x)::zcK f v r) from rfl]
  by_cases hk:k=f
  ·rw [if_pos hk,yaj,yaj];omega
  ·rw [if_neg hk,yaj,yaj];omega
def ziO.some_of{v:V}{o:Option Value}(r:ziO (some v) o):∃u,o=some u/\zaJ v u:=by
 cases o with
 | none=>exact (show False from r).elim
 | some u=>exact ⟨u,rfl,r⟩
def ziO.none_of{o:Option Value}(r:ziO none o):o=none:=by
 cases o with
 | none=>rfl
 | some u=>exact (show False from r).elim
def zkp{v:V}{u:Value}(r:zaJ v u):PySem.W.handedIn u=true:=by
 cases v with
 | non=>cases (show u=Value.none from r);rfl
 | bl b=>cases (show u=Value.bool b from r);rfl
 | int i=>obtain ⟨t,e⟩:=(show ∃t,u=Value.int i t from r);cases e;rfl
 | str x=>obtain ⟨t,e⟩:=(show ∃t,u=Value.str x t from r);cases e;rfl
 | byt b=>obtain ⟨t,e⟩:=(show ∃t,u=Value.bytes b t from r);cases e;rfl
 | flt b=>obtain ⟨t,e⟩:=(show ∃t,u=Value.float b t from r);cases e;rfl
 | ref a=>cases (show u=Value.ref a from r);rfl
 | ty n=>cases (show u=Value.type n from r);rfl
section
variable{P:Program}{w:World}{H H':Hp}{h h':Heap}{a C dx:Addr}{fs fs':List (Str×V)}
def zfr(hok:HOk P w H h)(e:H a=some (.ins C dx fs)):∃mA,ObjM h a dx C mA/\(∀f,ziO (fs.lookup f) (mA f))/\PySem.Within mA (fs.map (·.1))/\fs.length<=1000/\H dx=some (.own a):=by
 obtain ⟨d,z,ne,ob,mA,n,r,q⟩:=(show zba P w H h a (.ins C dx fs) from hok a _ e);exact ⟨mA,⟨ob,n,ne⟩,r,q,z,d⟩
end
structure Cls(K:PySem.W.Frag)(C:Addr):Prop where
 pg:PySem.W.plainGet K C Str.empty=true
 hd:PySem.W.hasDictIn K C=true
 po:PySem.W.plainOver K C=true
 sa:PySem.W.findIn K (.ref C) "__setattr__" = some (some (.builtin "object.__setattr__"))
def Cls.get{K:PySem.W.Frag}{C:Addr}(c:Cls K C)(f:Str):PySem.W.plainGet K C f=true:=c.pg
noncomputable def zcG(K:PySem.W.Frag)(C:Addr)(f:Str):Prop:=PySem.W.findIn K (.ref C) f=some none
def zcG.taker{K:PySem.W.Frag}{C:Addr}{f:Str}(n:zcG K C f):PySem.W.takerIn K C f=some none:=by
 unfold PySem.W.takerIn;rw [show PySem.W.findIn K (.ref C) f=some none from n];rfl
structure Meth(K:PySem.W.Frag)(C:Addr)(m:Str)(f:Addr):Prop where
 at_:PySem.W.findIn K (.ref C) m=some (some (.ref f))
 fn:PySem.W.isFn K (.ref f)=true
 kp:PySem.W.keepIn K (.ref f)=true
section
variable{X:Cx}{pins:Z3}{σ:St}{H:Hp}{s:Shared}{a C dx:Addr}{fs:List (Str×V)}{f:Str}{v:V}{A:Around}{E:Z5}
def ziD{b:Bool}{Q:Z5}(I:Inv X pins σ H s)(e:H a=some (.ins C dx fs))(c:Cls X.K C)(n:zcG X.K C f)(l:fs.lookup f=some v)
  (h:∀u s',Inv X pins σ H s'->zaJ v u->Q u s'):wpAny (model X.prog X.w) A (getAttr (.ref a) f b) Q E s:=by
 obtain ⟨mA,O,r,_,_,_⟩:=zfr I.hok e;obtain ⟨u,hu,ru⟩:=ziO.some_of (v:=v) (o:=mA f) (by rw [<-l];exact r f);exact zo0 I.kIn O (c.get f) c.hd n hu (zkp ru) (h u _ (I.tok _) ru)
def zeN{m:Str}{g:Addr}{pl:Sem Bool}{Q:Value×List Value->Shared->Prop}(I:Inv X pins σ H s)(e:H a=some (.ins C dx fs))(c:Cls X.K C)(k:Meth X.K C m g)(l:fs.lookup m=none)
  (h:Q (.ref g,[.ref a]) s):wpAny (model X.prog X.w) A (getMethod (.ref a) m pl) Q E s:=by
 obtain ⟨mA,O,r,_,_,_⟩:=zfr I.hok e;have hn:mA m=none:=ziO.none_of (by rw [<-l];exact r m);exact zmo I.kIn O (c.get m) k.at_ k.fn hn h
def zio{y:V}{u:Value}{Q:Unit->Shared->Prop}(I:Inv X pins σ H s)(e:H a=some (.ins C dx fs))(c:Cls X.K C)(n:zcG X.K C f)(hl:fs.length<1000)(ry:zaJ y u)
  (h:∀s',Inv X pins σ (upd H a (.ins C dx (zcK f y fs))) s'->Q () s'):wpAny (model X.prog X.w) A (setAttr (.ref a) f u) Q E s:=by
 obtain ⟨mA,O,r,wi,_,ho⟩:=zfr I.hok e
 have hz:(fs.map (·.1)).length<=sizeLine:=by rw [yaf,ybO];omega
 refine zn1 I.kIn O c.sa c.po n.taker c.hd wi hz fun h' O' sb=>h _ ?_
 have hd:∃o,h'.get? dx=some o:=let ⟨o,_,_,e',_⟩:=O'.ns;⟨o,e'⟩
 refine I.write (x:=a) (e:=dx) (by rw [e];exact True.intro) (.inr ho) (fun b q hb z=>(sb.2 b hb).trans z) hd ?_;refine ⟨by rw [zag O.ne];exact ho,?_,O.ne,O'.obj,_,O'.ns,fun g=>?_,fun g hg=>?_⟩
 ·have:=zef f y fs;omega
 ·show ziO ((zcK f y fs).lookup g) (if g=f then some u else mA g);rw [zed]
  by_cases q:g=f
  ·rw [if_pos q,if_pos q];exact ry
  ·rw [if_neg q,if_neg q];exact r g
 ·by_cases q:g=f
  ·rw [q];exact (zeh f y fs).1
  ·refine (zeh f y fs).2 g (wi g fun z=>hg ?_);show (if g=f then some u else mA g)=none;rw [if_neg q];exact z
def Inv.made(I:Inv X pins σ H s):Inv X pins σ (upd (upd H s.heap.objs.size (.own (s.heap.objs.size+1))) (s.heap.objs.size+1) (.ins C s.heap.objs.size []))
  { s with heap:=(s.heap.push PySem.W.emptyDict).push (PySem.W.instObj C s.heap.objs.size) }:=by
 have e1:(s.heap.push PySem.W.emptyDict).get? s.heap.objs.size=some PySem.W.emptyDict:=yam s.heap rfl
 have e2:((s.heap.push PySem.W.emptyDict).push (PySem.W.instObj C s.heap.objs.size)).get? (s.heap.objs.size+1)=some (PySem.W.instObj C s.heap.objs.size):=by
  have:=yam (s.heap.push PySem.W.emptyDict) (o:=PySem.W.instObj C s.heap.objs.size) rfl
  rwa [ya4] at this
 have e3:(s.heap.push PySem.W.emptyDict).Ns s.heap.objs.size (fun _=>none):=⟨PySem.W.emptyDict,#[],_,e1,rfl,(fun e he=>absurd he (by simp)),fun _=>rfl⟩;have I1:=I.laid (a:=s.heap.objs.size) (o:=.own (s.heap.objs.size+1)) (h':=s.heap.push PySem.W.emptyDict) (t':=s.toks) (fun b u q=>yae _ q) (yal _) ⟨_,e1⟩;refine I1.laid (a:=s.heap.objs.size+1) (o:=.ins C s.heap.objs.size []) (t':=s.toks) (fun b u q=>yae _ q) (ycK (ya4 _ _)) ?_;have ne:s.heap.objs.size≠s.heap.objs.size+1:=yar (yb1 _);refine ⟨by rw [zag ne,zat],yaW _,ne,e2,fun _=>none,(Heap.Ns1.of_empty e3).at fun o q=>yae _ q,fun _=>True.intro,fun y hy=>absurd rfl hy⟩
def zpl{prog:Program}{w:World}{env:Env}{e:Expr}{f:Str}{pos:Pos}{s:Shared}{Q:Z5}(hb:attributeBase e f env (eval e env)=eval e env)
  (h:wpAny (model prog w) A (eval e env) (fun o s₁=>wpAny (model prog w) A (getAttr o f true) Q E s₁) E s):wpAny (model prog w) A (eval (.Attribute e f pos) env) Q E s :=
 Attribute_any_ h (by rw [arm_eval_Attribute,hb])
end
noncomputable def zvy(K:PySem.W.Frag)(ta:TE)(f:Str):TE:=fun σ H Q=>ta σ H fun x H1=>∃a C dx fs v,x=.ref a/\H1 a=some (.ins C dx fs)/\Cls K C/\zcG K C f/\fs.lookup f=some v/\Q v H1
noncomputable def zxz(K:PySem.W.Frag)(ta tv:TE)(f:Str):TS:=fun D σ H=>tv σ H fun y H1=>ta σ H1 fun x H2=>∃a C dx fs,x=.ref a/\H2 a=some (.ins C dx fs)/\Cls K C/\zcG K C f/\fs.length<1000 ∧
 D.nx σ (upd H2 a (.ins C dx (zcK f y fs)))
noncomputable def zwR(X:Cx)(op:Operator)(rd:V->V->Hp->VK->Prop):Prop :=
 ∀(pins:Z3) (s:Shared) (σ:St) (H:Hp) (x y:V) (u v:Value) (Q:VK),Inv X pins σ H s->zaJ x u->zaJ y v->rd x y H Q->wpAny (model X.prog X.w) X.A (inplaceOp op u v) (EP X pins σ Q) X.xe s
section
variable{X:Cx}{o e value:Expr}{f:Str}{pos pos' tpos:Pos}{ta tv:TE}
def zf6(he:PE X e ta)(hb:attributeBase e f X.env (eval e X.env)=eval e X.env):PE X (.Attribute e f pos) (zvy X.K ta f):=by
 intro pins s σ H Q I h;refine zpl hb (thn (he pins s σ H _ I h) fun u s1 ⟨x,H1,I1,rx,a,C,dx,fs,v,ex,ea,c,n,l,q⟩=>?_);subst ex;obtain rfl:u=Value.ref a:=rx;exact ziD I1 ea c n l fun u' s2 I2 ru=>⟨v,H1,I2,ru,q⟩
def zm4(ha:PE X o ta)(hv:PE X value tv)(hs:swapsWith value (some (.Attribute o f pos')) pos.line X.env=pure false):PS X (.Assign [.Attribute o f pos'] value pos) (zxz X.K ta tv f):=by
 intro pins s σ H D I h;refine plainObj_wpAny_Assign_Attribute (thn (hv pins s σ H _ I h) fun u s1 ⟨y,H1,I1,ry,q⟩=>thn (ha pins s1 σ H1 _ I1 q) fun ov s2 ⟨x,H2,I2,rx,a,C,dx,fs,ex,ea,c,n,l,q2⟩=>?_) hs;subst ex;obtain rfl:ov=Value.ref a:=rx;exact zio I2 ea c n l ry fun s3 I3=>⟨σ,_,I3,q2⟩
noncomputable def zvD:V->V->Hp->VK->Prop:=fun x y H Q=>∃i j,x=.int i/\y=.int j/\Q (.int (i+j)) H
noncomputable def zvC:V->V->Hp->VK->Prop:=fun x y H Q=>∃i j,x=.int i/\y=.int j/\Q (.int (i-j)) H
def zrN:zwR X .Add zvD:=by
 rintro pins s σ H x y u v Q I rx ry ⟨i,j,rfl,rfl,q⟩;obtain ⟨t,rfl⟩:=(show ∃t,u=Value.int i t from rx);obtain ⟨t',rfl⟩:=(show ∃t',v=Value.int j t' from ry);exact PyProof.Rows.iadd_int ⟨.int (i+j),H,I.tok _,⟨_,rfl⟩,q⟩
def zrM:zwR X .Sub zvC:=by
 rintro pins s σ H x y u v Q I rx ry ⟨i,j,rfl,rfl,q⟩;obtain ⟨t,rfl⟩:=(show ∃t,u=Value.int i t from rx);obtain ⟨t',rfl⟩:=(show ∃t',v=Value.int j t' from ry);exact PyProof.Rows.isub_int ⟨.int (i-j),H,I.tok _,⟨_,rfl⟩,q⟩
end
section
variable{X:Cx}{pins:Z3}{σ:St}{H:Hp}{s:Shared}{A:Around}{E:Z5}{Q:Z5}{c:Value}{b:Bool}
inductive TyOf(K:PySem.W.Frag)(H:Hp):V->Value->Prop where
 | non:TyOf K H .non (.type "NoneType")
 | bl (x:Bool):TyOf K H (.bl x) (.type "bool")
 | int (i:Int):TyOf K H (.int i) (.type "int")
 | str (x:Str):TyOf K H (.str x) (.type "str")
 | flt (x:UInt64):TyOf K H (.flt x) (.type "float")
 | lst {a:Addr} {xs:List V} (e:H a=some (.lst xs)):TyOf K H (.ref a) (.type "list")
 | frz {a:Addr} {o:Obj} {xs:List V} (e:H a=some (.frz o (.lst xs))):TyOf K H (.ref a) (.type "list")
 | tup {a:Addr} {xs:List V} (e:H a=some (.tup xs)):TyOf K H (.ref a) (.type "tuple")
 | dK {a:Addr} {kvs:List (Key×V)} (e:H a=some (.dK kvs)):TyOf K H (.ref a) (.type "dict")
 | dT {a:Addr} {kvs:List (List Key×V)} (e:H a=some (.dT kvs)):TyOf K H (.ref a) (.type "dict")
 | ins {a C dx:Addr} {fs:List (Str×V)} (e:H a=some (.ins C dx fs)) (cl:Cls K C) (ha:PySem.W.findIn K (.ref C) "__class__" = some (some (.builtin "object.__class__")))
   (hn:PySem.W.specialIn K (.builtin "object.__class__") "__get__" = some (some (.builtin "getset_descriptor.__get__"))) (htk:PySem.W.takesIn K (.builtin "object.__class__")=some true)
   (hm:PySem.W.mroIn K C (.type "object")=some true):TyOf K H (.ref a) (.ref C)
def zkg{x:V}{u t:Value}(I:Inv X pins σ H s)(rx:zaJ x u)(ty:TyOf X.K H x t)(e:PySem.W.kitOne X.K t c=some b)(h:∀tk,Q (.bool b) { s with toks:=tk }) :
  wpAny (model X.prog X.w) A (call (.builtin "isinstance") [u,c]) Q E s:=by
 cases ty with
 | non=>cases (show u=Value.none from rx);exact ya6 PySem.W.kitx_none I.kIn True.intro e (fun z=>nomatch z) h
 | bl y=>cases (show u=Value.bool y from rx);exact ya6 PySem.W.kitx_bool I.kIn True.intro e (fun z=>nomatch z) h
 | int i=>obtain ⟨t,q⟩:=(show ∃t,u=Value.int i t from rx);cases q;exact ya6 PySem.W.kitx_int I.kIn True.intro e (fun z=>nomatch z) h
 | str y=>obtain ⟨t,q⟩:=(show ∃t,u=Value.str y t from rx);cases q;exact ya6 PySem.W.kitx_str I.kIn True.intro e (fun z=>nomatch z) h
 | flt y=>obtain ⟨t,q⟩:=(show ∃t,u=Value.float y t from rx);cases q;exact ya6 PySem.W.kitx_float I.kIn True.intro e (fun z=>nomatch z) h
 | @lst a xs ea =>
  cases (show u=Value.ref a from rx);obtain ⟨_,_,n,_,h1⟩:=(show zba X.prog X.w H s.heap a (.lst xs) from I.hok a _ ea);exact ya6 PySem.W.kitx_list I.kIn ⟨_,h1,rfl⟩ e (fun z=>nomatch z) h
 | @frz a ob xs ea =>
  cases (show u=Value.ref a from rx);obtain ⟨_,_,_,n,_,h1⟩:=(show zba X.prog X.w H s.heap a (.frz ob (.lst xs)) from I.hok a _ ea);exact ya6 PySem.W.kitx_list I.kIn ⟨_,h1,rfl⟩ e (fun z=>nomatch z) h
 | @tup a xs ea =>
  cases (show u=Value.ref a from rx);obtain ⟨_,_,_,p⟩:=(show zba X.prog X.w H s.heap a (.tup xs) from I.hok a _ ea);obtain ⟨o,h1,h2,_⟩:=p;exact ya6 PySem.W.kitx_tuple I.kIn ⟨o,h1,h2⟩ e (fun z=>nomatch z) h
 | @dK a kvs ea =>
  cases (show u=Value.ref a from rx);obtain ⟨_,_,vs,_,p⟩:=(show zba X.prog X.w H s.heap a (.dK kvs) from I.hok a _ ea);obtain ⟨o,es,ep,h1,h2,_⟩:=p;exact ya6 PySem.W.kitx_dict I.kIn ⟨o,h1,h2.1⟩ e (fun z=>nomatch z) h
 | @dT a kvs ea =>
  cases (show u=Value.ref a from rx);obtain ⟨_,_,xs,_,o,es,ep,h1,h2,_⟩:=(show zba X.prog X.w H s.heap a (.dT kvs) from I.hok a _ ea);exact ya6 PySem.W.kitx_dict I.kIn ⟨o,h1,h2.1⟩ e (fun z=>nomatch z) h
 | @ins a C dx fs ea cl ha hn htk hm =>
  cases (show u=Value.ref a from rx);obtain ⟨mA,O,_⟩:=zfr I.hok ea;obtain ⟨od,J,_⟩:=O.look;exact ya6 (PySem.W.kitx_own (cl.get _) cl.hd ha hn htk hm) I.kIn J e (fun z=>nomatch z) h
end
end L2
namespace L2
open PySem PySem.Spec PyProof.Rows
structure Room(k:Nat)(A:Around):Prop where
 hd:A.handled=none
 dp:A.depth+3*k+5<recursionLimit
 un:A.units+16*k+200<cLine
def Room.mono{j k:Nat}{A:Around}(r:Room k A)(h:j<=k):Room j A:=⟨r.hd,by have:=r.dp;omega,by have:=r.un;omega⟩
theorem Room.deeper{k:Nat}{A:Around}(r:Room (k+1) A)(env:Env):Room k (A.deeper env) :=
 ⟨r.hd,by have:=r.dp;show A.depth+1+3*k+5<_;omega,by have:=r.un;show A.units+3+16*k+200<_;omega⟩
def ziz{A:Around}{C:Addr}{us:List Value}{kw:List (Str×Value)}:(A.under (.builtin "type.__call__" ⟨.ref C::us,kw⟩)).depth=A.depth+1:=by
 first | rfl | simp [Around.under,Code.weight,Code.isCreation,Code.isGuard,Code.isCaller,Code.frames,Code.isFrame,guardIds]
def ziy{A:Around}{C:Addr}{us:List Value}{kw:List (Str×Value)}:(A.under (.builtin "type.__call__" ⟨.ref C::us,kw⟩)).units=A.units+1:=by
 first | rfl | simp [Around.under,Code.cUnits,Code.frames,Code.isFrame]
def Room.make{k:Nat}{A:Around}(r:Room (k+1) A)(C:Addr)(us:List Value)(kw:List (Str×Value)):Room k (A.under (.builtin "type.__call__" ⟨.ref C::us,kw⟩)) :=
 ⟨r.hd,by have:=r.dp;rw [ziz];omega,by have:=r.un;rw [ziy];omega⟩
theorem Room.depth{k:Nat}{A:Around}(r:Room k A):A.depth<recursionLimit:=by have:=r.dp;omega
theorem Room.units{k:Nat}{A:Around}(r:Room k A):A.units+64<cLine:=by have:=r.un;omega
noncomputable def zsq:TA:=fun _ H Q=>Q [] H
noncomputable def znG(ta:TE)(tr:TA):TA:=fun σ H Q=>ta σ H fun x H1=>tr σ H1 fun xs H2=>Q (x::xs) H2
section
variable{X:Cx}{e:Expr}{es:List Expr}{te:TE}{t:TA}{pos:Pos}
def zea:PA X [] zsq:=fun _ _ _ _ H Q I h=>Calls.spliced_nil ⟨[],H,I,.nil,h⟩
def zbZ(ha:PE X e te)(hr:PA X es t)(hs:starEach (e::es) X.env=(false,eval e X.env)::starEach es X.env:=by rfl):PA X (e::es) (znG te t):=by
 intro pos pins s σ H Q I h;rw [hs];show wpAny _ _ (spliced ((false,eval e X.env)::backTo pos (starEach es X.env))) _ _ s;refine ycL (thn (ha pins s σ H _ I h) fun u s1 ⟨x,H1,I1,r1,q1⟩=>?_);exact thn (hr pos pins s1 σ H1 _ I1 q1) fun us s2 ⟨xs,H2,I2,r2,q2⟩=>⟨x::xs,H2,I2,.cons r1 r2,q2⟩
noncomputable def zxq(t:TA):TE:=fun σ H Q=>t σ H fun xs H1=>xs.length<=sizeLine/\∀p,H1 p=none->Q (.ref p) (upd H1 p (.tup xs))
noncomputable def zxu(t:TA):TE:=fun σ H Q=>t σ H fun xs H1=>xs.length<=sizeLine/\∀p,H1 p=none->Q (.ref p) (upd H1 p (.lst xs))
def zqV{x1}(h:PA X es t):PE X (.Tuple es x1 pos) (zxq t):=by
 intro pins s σ H Q I hq;refine wpAny_Tuple_spliced (thn (h pos pins s σ H _ I hq) fun us s1 ⟨xs,H1,I1,r,z,q⟩=>⟨by rw [<-r.length];exact z,?_⟩);have hf:H1 s1.heap.objs.size=none:=I1.hok.fresh (yal _);refine ⟨.ref s1.heap.objs.size,upd H1 s1.heap.objs.size (.tup xs),I1.laid (t':=s1.toks) (fun b u e=>yae _ e) (yal _) ?_,rfl,q _ hf⟩;exact ⟨z,us,r,⟨_,yam _ rfl,rfl,_,rfl⟩⟩
def zq1(h:PA X es t):PE X (.List es pos) (zxu t):=by
 intro pins s σ H Q I hq;refine wpAny_List_spliced (thn (h pos pins s σ H _ I hq) fun us s1 ⟨xs,H1,I1,r,z,q⟩=>⟨by rw [<-r.length];exact z,?_⟩);have hf:H1 s1.heap.objs.size=none:=I1.hok.fresh (yal _);refine ⟨.ref s1.heap.objs.size,upd H1 s1.heap.objs.size (.lst xs),I1.laid (t':=s1.toks) (fun b u e=>yae _ e) (yal _) ?_,rfl,q _ hf⟩;exact ⟨z,us,0,r,yam _ rfl⟩
end
noncomputable abbrev Sp:=List V->Hp->VK->XK->Prop
noncomputable abbrev CXT:=List Env->Hp->Shared->XK->Value->Shared->Prop
structure Env0(P:Program)(w:World)(K:PySem.W.Frag)(mg:Z6)(base:Heap)(A:Around)(outer:List Env)(s:Shared)(H:Hp):Prop where
 frames:A.frames=some outer
 mod:Mod K mg base
 bs:∀b o,base.get? b=some o->s.heap.get? b=some o/\H b=none
 bsz:base.objs.size<=s.heap.objs.size
 funs:s.heap.FunFrames base outer
 frf:∀b∈frs outer,H b=none
 hok:HOk P w H s.heap
 bare:AllBare s.gens
noncomputable def CE(outer:List Env)(P:Program)(w:World)(H:Hp)(s:Shared)(Q:VK)(u:Value)(s':Shared):Prop :=
 ∃v H',s'.os=s.os/\AllBare s'.gens/\Un (frs outer) [] H H' s.heap s'.heap/\HOk P w H' s'.heap/\zaJ v u/\Q v H'
noncomputable def CR(CX:CXT)(outer:List Env)(P:Program)(w:World)(H:Hp)(s:Shared)(Q:VK)(E:XK)(r:Result)(s':Shared):Prop :=
 match r with
 | .ok (.ret u)=>CE outer P w H s Q u s'
 | .ok _=>False
 | .error e=>CX outer H s E e s'
structure FnOk(P:Program)(w:World)(K:PySem.W.Frag)(mg:Z6)(base:Heap)(CX:CXT)(k:Nat)(f:Addr)(fd:FuncData)(ps:List Str)(sp:Sp):Prop where
 len:∀vs H Q E,sp vs H Q E->vs.length=ps.length
 run:∀(A:Around) (outer:List Env) (s:Shared) (H:Hp) (args:Args) (us:List Value) (vs:List V) (Q:VK) (E:XK),Room k A->Env0 P w K mg base A outer s H->BindsTo s fd args (ps.zip us)->Vals vs us->sp vs H Q E →
  codeAny (model P w) A (.call (.ref f) args) (CR CX outer P w H s Q E) s
theorem FnOk.mono{P:Program}{w:World}{K:PySem.W.Frag}{mg:Z6}{base:Heap}{CX:CXT}{j k:Nat}{f:Addr}{fd:FuncData}{ps:List Str}{sp:Sp}(F:FnOk P w K mg base CX j f fd ps sp)(h:j<=k) :
  FnOk P w K mg base CX k f fd ps sp:=⟨F.len,fun A outer s H args us vs Q E hr=>F.run A outer s H args us vs Q E (hr.mono h)⟩
def FnOk.imp{P:Program}{w:World}{K:PySem.W.Frag}{mg:Z6}{base:Heap}{CX:CXT}{k:Nat}{f:Addr}{fd:FuncData}{ps:List Str}{sp sp':Sp}(F:FnOk P w K mg base CX k f fd ps sp)
  (h:∀vs H Q E,sp' vs H Q E->sp vs H Q E):FnOk P w K mg base CX k f fd ps sp' :=
 ⟨fun vs H Q E q=>F.len vs H Q E (h _ _ _ _ q),fun A outer s H args us vs Q E hr he hb hv hs=>F.run A outer s H args us vs Q E hr he hb hv (h _ _ _ _ hs)⟩
def Env0.make{P:Program}{w:World}{K:PySem.W.Frag}{mg:Z6}{base:Heap}{A:Around}{outer:List Env}{s:Shared}{H:Hp}(e:Env0 P w K mg base A outer s H)(C:Addr)(us:List Value)(kw:List (Str×Value)) :
  Env0 P w K mg base (A.under (.builtin "type.__call__" ⟨.ref C::us,kw⟩)) outer s H:=⟨by first | exact e.frames | (simpa [Around.under,Code.envs,Code.isFrame,pushEnvs] using e.frames),e.mod,e.bs,e.bsz,e.funs,e.frf,e.hok,e.bare⟩
section
variable{X:Cx}{pins:Z3}{σ:St}{H:Hp}{s s':Shared}
def Inv.env0(I:Inv X pins σ H s):Env0 X.prog X.w X.K X.mg X.base X.A X.stack s H :=
 ⟨I.ok.frames,I.ok.mod,I.bs,yao I.ok.bsz I.sz,I.stack,I.stkFree,I.hok,I.bare⟩
def Inv.after{Q:VK}{u:Value}(I:Inv X pins σ H s)(h:CE X.stack X.prog X.w H s Q u s'):EP X pins σ Q u s':=by
 obtain ⟨v,H',os,bare,un,hok,r,q⟩:=h;obtain ⟨hh,g,d,t,os'⟩:=s';obtain rfl:os'=s.os:=os;exact ⟨v,H',I.call (h':=hh) (g':=g) (d':=d) (t':=t) (ch:=[]) un hok bare (fun b z=>absurd z (by simp)),r,q⟩
end
noncomputable def zcD(K:PySem.W.Frag)(fd:FuncData)(ps:List Str)(ds:List Value):Prop :=
 ∀(s:Shared) (us:List Value),K.In s.heap->(us++ds).length=ps.length->BindsTo s fd ⟨us,[]⟩ (ps.zip (us++ds))
def zcD.all{K:PySem.W.Frag}{fd:FuncData}{ps:List Str}(h:∀us:List Value,us.length=ps.length->bindArgs fd ⟨us,[]⟩=pure (ps.zip us)):zcD K fd ps []:=fun s us _ hl=>by
 rw [yaK] at hl ⊢;exact .of_eq (h us hl)
noncomputable def zsk(CX:CXT)(X:Cx)(E:XK):Prop:=∀(pins:Z3) (σ:St) (H:Hp) (s:Shared) (e:Value) (s':Shared),Inv X pins σ H s->CX X.stack H s E e s'->X.xe e s'
section
variable{X:Cx}{CX:CXT}{k:Nat}{f C:Addr}{fd:FuncData}{ps:List Str}{sp:Sp}{dvs:List V}{ds:List Value}{E:XK}{x m:Str}{p pos apos:Pos}{e o:Expr}{es:List Expr}{ta:TE}{t:TA}
structure Mk(K:PySem.W.Frag)(C f:Addr):Prop where
 makes:PySem.W.makesIn K C=true
 init:PySem.W.findIn K (.ref C) "__init__" = some (some (.ref f))
 fn:PySem.W.isFn K (.ref f)=true
 kp:PySem.W.keepIn K (.ref C)=true
end
section
variable{X:Cx}{CX:CXT}{k:Nat}{f C:Addr}{fd:FuncData}{ps ks:List Str}{sp:Sp}{E:XK}{x m:Str}{p pos apos kpos:Pos}{e o:Expr}{es:List Expr}{kws:List Keyword}{te ta:TE}{t tk:TA}{nm:Option Str}
variable{g:List Value->List Value->List Value}{gV:List V->List V->List V}
end
structure FnScope(N P:List Str)(sc:Scope):Prop where
 kind:sc.kind=.function
 co:sc.isCoroutine=false
 gen:sc.isGenerator=false
 nd:N.Nodup
 pre:N.take P.length=P
 par:∀x∈P,sc.names.lookup x=some .local\/sc.names.lookup x=some .cell
 nofree:∀y∈sc.names,y.2≠.free
theorem zgv{kindOf:Str->Option NameKind}{x:Str}:∀{binds:List (Str×Value)} {m:Z6},(∀v,(x,v) ∉ binds)->bindL kindOf binds m x=m x
 | [],_,_=>rfl
 | (n,v)::r,m,h=>by
  unfold bindL;rw [zgv fun w hw=>h w (yav _ hw)];split
  ·have:x≠n:=by rintro rfl;exact h v yaE
   simp [this]
  ·rfl
theorem zgx{kindOf:Str->Option NameKind}{x:Str}:∀{binds:List (Str×Value)} {m:Z6},(∀v,(x,v) ∉ binds)->bindC kindOf binds m x=m x
 | [],_,_=>rfl
 | (n,v)::r,m,h=>by
  unfold bindC;rw [zgx fun w hw=>h w (yav _ hw)];split
  ·rfl
  ·have:x≠n:=by rintro rfl;exact h v yaE
   simp [this]
theorem zgw{kindOf:Str->Option NameKind}{x:Str}{v:Value}:∀{P:List Str} {vs:List Value} {i:Nat} {m:Z6},P.Nodup->P[i]?=some x->vs[i]?=some v->kindOf x=some .local →
  bindL kindOf (P.zip vs) m x=some v
 | [],_,_,_,_,h,_,_=>by simp at h
 | _::_,[],_,_,_,_,h,_=>by simp at h
 | p::P,w::vs,0,m,nd,h1,h2,hk=>by
  simp at h1 h2;subst h1;subst h2;show bindL kindOf ((p,w)::P.zip vs) m p=_;unfold bindL;rw [zgv fun v hv=>(ybk.mp nd).1 (List.of_mem_zip hv).1,if_pos hk];simp
 | p::P,w::vs,i+1,m,nd,h1,h2,hk=>by
  show bindL kindOf ((p,w)::P.zip vs) m x=_;unfold bindL;exact zgw (i:=i) (ybk.mp nd).2 (by simpa using h1) (by simpa using h2) hk
theorem zgy{kindOf:Str->Option NameKind}{x:Str}{v:Value}:∀{P:List Str} {vs:List Value} {i:Nat} {m:Z6},P.Nodup->P[i]?=some x->vs[i]?=some v->kindOf x≠some .local →
  bindC kindOf (P.zip vs) m x=some v
 | [],_,_,_,_,h,_,_=>by simp at h
 | _::_,[],_,_,_,_,h,_=>by simp at h
 | p::P,w::vs,0,m,nd,h1,h2,hk=>by
  simp at h1 h2;subst h1;subst h2;show bindC kindOf ((p,w)::P.zip vs) m p=_;unfold bindC;rw [zgx fun v hv=>(ybk.mp nd).1 (List.of_mem_zip hv).1,if_neg hk];simp
 | p::P,w::vs,i+1,m,nd,h1,h2,hk=>by
  show bindC kindOf ((p,w)::P.zip vs) m x=_;unfold bindC;exact zgy (i:=i) (ybk.mp nd).2 (by simpa using h1) (by simpa using h2) hk
noncomputable def ze2(N:List Str)(vs:List V):St:=vs.map some++List.replicate (N.length-vs.length) none
noncomputable def zk9(CX:CXT)(P:Program)(w:World)(K:PySem.W.Frag)(mg:Z6)(base:Heap)(N:List Str)(qual:Str)(scope:Scope)(f:Addr)(cd:Value)(A:Around)(outer:List Env)(s:Shared)(H:Hp)(E:XK):Cx where
 prog:=P
 w:=w
 K:=K
 mg:=mg
 base:=base
 A:=A.deeper (envOfC qual scope s.heap.objs.size f cd)
 N:=N
 s₀:=s
 H₀:=H
 env:=envOfC qual scope s.heap.objs.size f cd
 outer:=outer
 stack:=envOfC qual scope s.heap.objs.size f cd::outer
 ex:=[]
 calm:=true
 fn:=fun _=>true
 pn:=[]
 xe:=fun e s'=>wpAny (model P w) (A.deeper (envOfC qual scope s.heap.objs.size f cd)) (leaving (envOfC qual scope s.heap.objs.size f cd) e) (fun _ s''=>CX outer H s E e s'') (fun e' s''=>CX outer H s E e' s'') s'
def zh6{sc:Scope}{n:Nat}{x:Str}(h:sc.names.lookup x=some .cell):∃c,(cellsFrom n sc.names []).lookup x=some c:=by
 have q:=PySem.W.cellsFrom_some sc.names n [] (.inl h);exact yb7.mp q
def zkk{CX:CXT}{P:Program}{w:World}{K:PySem.W.Frag}{mg:Z6}{base:Heap}{N ps:List Str}{qual:Str}{scope:Scope}{f:Addr}{cd:Value}{A:Around}{outer:List Env}{s s1:Shared}{H:Hp}{E:XK}{us:List Value}{vs:List V}
  (S:FnScope N ps scope) (hd:A.handled=none) (e0:Env0 P w K mg base A outer s H) (hl:vs.length=ps.length) (r:Vals vs us)
  (x:InCallC s s.heap.objs.size (bindL (envOfC qual scope s.heap.objs.size f cd).kindOf (ps.zip us) fun _=>none) (cellsFrom (s.heap.objs.size+1) scope.names []) (bindC (envOfC qual scope s.heap.objs.size f cd).kindOf (ps.zip us) fun _=>none) s1) :
  Inv (zk9 CX P w K mg base N qual scope f cd A outer s H E) [] (ze2 N vs) H s1:=by
 have hpl:ps.length<=N.length:=by have:=congrArg List.length S.pre;rw [yaI] at this;omega
 obtain ⟨h1,tk,rfl,hk⟩:=x.done;have noA:∀b:Addr,b ∉ (zk9 CX P w K mg base N qual scope f cd A outer s H E).ex:=fun b z=>absurd (show b∈([]:List Addr) from z) (by simp)
 refine ⟨⟨e0.mod,S.kind,rfl,rfl,yal _,fun y z c h1 h2=>?_,fun y hy=>?_,fun y c _ h=>?_,fun _=>hd,Around.frames_deeper e0.frames,.inr ⟨rfl,rfl⟩,fun b z=>absurd z (noA b),e0.bs,e0.bsz,fun b _ _=>noA b,fun b z=>absurd z (noA b),e0.funs,e0.frf⟩,
  rfl,e0.bare,Un.kept hk,⟨_,x.toInCall.ns,fun i y v h1 h2 h3=>?_⟩,fun y c h=>⟨_,x.cell y c h⟩,e0.hok.fresh (yal _),fun y c h=>?_,fun p hp=>absurd (show p∈([]:Z3) from hp) (by simp),e0.hok.kept hk,?_⟩
 ·exact name_of_addr x.apart (yaF h1) (yaF h2)
 ·have hy:scope.names.lookup y=some .cell\/scope.names.lookup y=some .free:=hy
  rcases hy with hy | hy
  ·exact zh6 hy
  ·exact absurd rfl (S.nofree _ (yaF hy))
 ·exact yb6 (x.above y c (yaF h))
 ·have hi:i<vs.length:=by
   unfold ze2 at h2
   by_cases hi:i<vs.length
   ·exact hi
   ·rw [yax (by simpa using hi)] at h2;rw [ybE] at h2
    split at h2<;>cases h2
  have ha:vs[i]?=some v:=by
   unfold ze2 at h2;rw [yaL (by simpa using hi),yas] at h2
   cases e:vs[i]? with
   | none=>rw [e] at h2;cases h2
   | some a=>rw [e] at h2;cases h2;rfl
  obtain ⟨u,hu,rv⟩:=r.get ha
  have hp:ps[i]?=some y:=by
   rw [<-S.pre,List.getElem?_take_of_lt (by omega)];exact h1
  have ndP:ps.Nodup:=by rw [<-S.pre];exact S.nd.sublist (List.take_sublist _ _)
  refine ⟨u,rv,?_⟩
  rcases S.par y (yaZ hp) with k | k
  ·exact .inl ⟨k,zgw ndP hp hu k⟩
  ·obtain ⟨c,e⟩:=zh6 (n:=s.heap.objs.size+1) k;refine .inr ⟨.inl k,c,e,?_⟩;have q:=x.cell y c e;rw [zgy ndP hp hu (by show scope.names.lookup y≠_;rw [k];decide)] at q;exact q
 ·exact e0.hok.fresh (yb6 (x.above y c (yaF h)))
 ·unfold ze2;show _=N.length;rw [yaw,yaf,yaS];omega
def zuh{CX:CXT}{P:Program}{w:World}{K:PySem.W.Frag}{mg:Z6}{base:Heap}{k:Nat}{f:Addr}{name qual:Str}{params:Arguments}{body:List Stmt}{scope:Scope}{dV kV doc pm cdv ct oc:Value}{an od:Option Addr}
  {osl:Array (Option Value)} {N ps:List Str} {sp:Sp} (lk:K.lookup f=some ⟨oc,od,.func (PySem.W.fnOf name qual params body scope dV kV doc pm an cdv ct),osl⟩) (hcd:PySem.W.codeIn K cdv qual=true) (S:FnScope N ps scope)
  (len:∀vs H Q E,sp vs H Q E->vs.length=ps.length)
  (hbody:∀(A:Around) (outer:List Env) (s:Shared) (H:Hp) (vs:List V) (Q:VK) (E:XK),Room k (A.deeper (envOfC qual scope s.heap.objs.size f cdv))->sp vs H Q E →
   ∃t,PSs (zk9 CX P w K mg base N qual scope f cdv A outer s H E) body t/\t { nx:=fun _ H'=>Q .non H',rt:=Q } (ze2 N vs) H) :
  FnOk P w K mg base CX (k+1) f (PySem.W.fnOf name qual params body scope dV kV doc pm an cdv ct) ps sp:=by
 refine ⟨len,fun A outer s H args us vs Q E hr e0 hb r hsp=>?_⟩;have hl:=len _ _ _ _ hsp;have KX:K.In s.heap:=e0.mod.kin.keeps fun b o e=>(e0.bs b o e).1
 have lim:s.heap.NoLimit:=e0.mod.nolimit.keeps fun b o e=>(e0.bs b o e).1
 have hkind:∀y∈ps.zip us,scope.names.lookup y.1=some .local\/(scope.names.lookup y.1=some .cell/\((cellsFrom (s.heap.objs.size+1) scope.names []).lookup y.1).isSome=true):=fun ⟨n,v⟩ hy=>by
  rcases S.par n (List.of_mem_zip hy).1 with q | q
  ·exact .inl q
  ·exact .inr ⟨q,PySem.W.cellsFrom_some _ _ _ (.inl q)⟩
 refine codeAny_call_function hr.depth (KX _ _ lk) rfl S.co S.gen rfl (PySem.W.codeRec_of KX hcd) (hb _ _ _ _ ?_);refine wpAny_newFunctionEnv_cells S.kind hkind fun env he s1 x=>?_
 subst he;refine ⟨lim.keeps x.toInCall.keep,codeAny_func ?_⟩;obtain ⟨t,ht,hq⟩:=hbody A outer s H vs Q E (hr.deeper _) hsp;have I:Inv (zk9 CX P w K mg base N qual scope f cdv A outer s H E) [] (ze2 N vs) H s1:=zkk S hr.hd e0 hl r x;refine ybt (ht [] s1 (ze2 N vs) H _ I hq) (fun fl s' hs=>?_) fun e s' hs=>hs
 have fin:∀{σ':St} {H':Hp} {v:V} {u:Value},Inv (zk9 CX P w K mg base N qual scope f cdv A outer s H E) [] σ' H' s'->zaJ v u->Q v H'->CE outer P w H s Q u s' :=
  fun {σ' H' v u} J rv q=>⟨v,H',J.os,J.bare,J.base,J.hok,rv,q⟩
 cases fl with
 | ret u =>
  obtain ⟨v,σ',H',J,rv,q⟩:=hs;exact fin J rv q
 | next =>
  obtain ⟨σ',H',J,q⟩:=hs;exact fin (v:=V.non) (u:=Value.none) J rfl q
 | brk =>
  obtain ⟨_,_,_,q⟩:=hs;exact False.elim q
 | cont =>
  obtain ⟨_,_,_,q⟩:=hs;exact False.elim q
end L2
namespace L2
open PySem PySem.Spec PyProof.Rows
section
variable{X:Cx}{x:Str}{p pos:Pos}{e:Expr}{es:List Expr}{t:TA}{id T:String}{r:List V->Hp->VK->Prop}
noncomputable def tCB(r:List V->Hp->VK->Prop)(t:TA):TE:=fun σ H Q=>t σ H fun vs H1=>r vs H1 Q
def zdY(hc:zdC X (.builtin id) r)(hg:Gl X x)(hm:X.mg x=none)(hv:bootBuiltins x=some (.builtin id))(ha:PA X (e::es) t)(hn:x ≠ "__name__":=by decide)(hdb:(x == ("__debug__":Str))=false:=by decide)
  (he:starEach (e::es) X.env=(false,eval e X.env)::starEach es X.env:=by rfl) (hpl:(backTo pos (starEach es X.env)).any (·.1)=false:=by rfl):PE X (.Call (.Name x p) (e::es) [] pos) (tCB r t):=by
 intro pins s σ H Q I h;refine ybN (zdH I hg hm hv ?_ hn hdb);exact PyProof.Rows.callWith_builtin1 (thn (ha pos pins s σ H _ I h) fun us s1 ⟨vs,H1,I1,r1,q1⟩=>hc pins s1 σ H1 vs us Q I1 r1 q1) he hpl
def zd9(hc:zdC X (.type T) r)(hg:Gl X x)(hm:X.mg x=none)(hv:bootBuiltins x=some (.type T))(ha:PA X (e::es) t)(hn:x ≠ "__name__":=by decide)(hdb:(x == ("__debug__":Str))=false:=by decide)
  (he:starEach (e::es) X.env=(false,eval e X.env)::starEach es X.env:=by rfl) (hpl:(backTo pos (starEach es X.env)).any (·.1)=false:=by rfl):PE X (.Call (.Name x p) (e::es) [] pos) (tCB r t):=by
 intro pins s σ H Q I h;refine ybN (zdH I hg hm hv ?_ hn hdb);exact ya3 (thn (ha pos pins s σ H _ I h) fun us s1 ⟨vs,H1,I1,r1,q1⟩=>hc pins s1 σ H1 vs us Q I1 r1 q1) he hpl
end
end L2
namespace HT
open PySem PyProof.Rows
section
open PySem.SeqAt
open PySem.AutoSeq1 (wpAny_loadPart')
open PySem.MeetsSeq PySem.MeetsSeq2 PySem.MeetsSeq3
end
section
variable{prog:Program}{w:World}{A:Around}{E:Z5}{s:Shared}
def zpg{t b:Addr}{vs ws:List Value}{Q:Z5}(ht:IsTup s.heap t vs.toArray)(hb:IsTup s.heap b ws.toArray)(hv:vs≠[])
  (h1:ws=[]->Q (.ref t) s) (h2:ws≠[]->Q (.ref s.heap.objs.size) { s with heap:=s.heap.push { cls:=.type "tuple",data:=.seq (vs++ws).toArray } })
  (hsz:vs.length+ws.length<=sizeLine):wpAny (model prog w) A (binaryOp .Add (.ref t) (.ref b)) Q E s:=by
 obtain ⟨⟨cls,dd,data,sl⟩,ho,hc,n,hd⟩:=id ht;obtain ⟨⟨cls2,dd2,data2,sl2⟩,ho2,hc2,n2,hd2⟩:=id hb;simp only at hc hd hc2 hd2;subst hc hd hc2 hd2
 have e:vs.toArray++ws.toArray=(vs++ws).toArray:=by simp
 by_cases hw:ws=[]
 ·exact concat_meets ⟨_,ho,rfl⟩ ⟨_,ho2,rfl⟩ noFill_tuple_add seq_tuple_add ycj ycd (yb8 _ _)
   (tuple_addW1 t b vs.toArray ws.toArray n n2 dd dd2 sl sl2 (by simpa using hv) (by simp [hw])) ⟨ho,ho2,h1 hw⟩
 ·refine concat_meets ⟨_,ho,rfl⟩ ⟨_,ho2,rfl⟩ noFill_tuple_add seq_tuple_add ycj ycd (yb8 _ _)
   (tuple_addW2 t b vs.toArray ws.toArray n n2 dd dd2 sl sl2 (by simpa using hv) (by simpa using hw) (by rw [yag,yag];exact hsz)) ⟨ho,ho2,?_⟩
  rw [e];exact h2 hw
noncomputable def sIx(n d:Nat):Option Int->Nat
 | none=>d
 | some v=>if v<0 then (v+(n:Int)).toNat else min v.toNat n
def zgM(n d k:Nat):sIx n d (some (k:Int))=min k n:=by
 show (if (k:Int)<0 then ((k:Int)+(n:Int)).toNat else min (k:Int).toNat n)=min k n;rw [if_neg (by omega),yba]
def zqA(n d:Nat)(hd:d<=n)(o:Option Int):sIx n d o<=n:=by
 cases o with
 | none=>exact hd
 | some v =>
  show (if v<0 then (v+(n:Int)).toNat else min v.toNat n)<=n
  by_cases hv:v<0
  ·rw [if_pos hv];omega
  ·rw [if_neg hv];exact Nat.min_le_right _ _
def zkP(v:Int)(n d:Nat):(if v<0 then max (v+(n:Int)) 0 else min v (n:Int))=((sIx n d (some v):Nat):Int):=by
 show (if v<0 then max (v+(n:Int)) 0 else min v (n:Int))=(((if v<0 then (v+(n:Int)).toNat else min v.toNat n):Nat):Int)
 by_cases hv:v<0
 ·simp only [if_pos hv];omega
 ·simp only [if_neg hv];omega
def ziM(lo hi:Option Int)(n:Nat):Builtin.Slice.sliceAdjust lo hi 1 (n:Int)=(((sIx n 0 lo:Nat):Int),((sIx n n hi:Nat):Int)):=by
 have h1:¬ ((1:Int)<0):=by omega
 unfold Builtin.Slice.sliceAdjust;simp only [h1,yby];refine Prod.ext ?_ ?_
 ·cases lo with
  | none=>rfl
  | some v=>exact zkP v n 0
 ·cases hi with
  | none=>rfl
  | some v=>exact zkP v n n
def zit(i j:Nat):Builtin.Slice.slicePlaces (i:Int) (j:Int) 1=j-i:=by
 unfold Builtin.Slice.slicePlaces
 have h1:(1:Int) > 0:=by omega
 simp only [h1,ybP,Int.ediv_one]
 split<;>omega
def zeF{v:Value}{o:Option Int}{Q:Option Int->Shared->Prop}(p:IsPart v o)(h:Q o s):wpAny (model prog w) A (Builtin.Slice.slicePartIndex v) Q E s:=by
 cases p with
 | none=>exact slicePart_none h
 | int i t=>exact slicePart_int h
def zb8{sl:Addr}{vl vu:Value}{lo hi:Option Int}{n:Nat}{Q:Int×Int×Nat->Shared->Prop}(hs:s.heap.IsSliceOf sl vl vu .none)(pl:IsPart vl lo)(pu:IsPart vu hi)
  (h:Q (((sIx n 0 lo:Nat):Int),1,sIx n n hi-sIx n 0 lo) s):wpAny (model prog w) A (Builtin.Slice.sliceApplied (.ref sl) (pure (n:Int))) Q E s:=by
 obtain ⟨os,hos,hcs,hds⟩:=id hs;unfold Builtin.Slice.sliceApplied Builtin.Slice.sliceFields;refine yaa (yaa (ybw hos hds (x:=vl) rfl (yaa (ybw hos hds (x:=vu) rfl (yaa (ybw hos hds (x:=.none) rfl (yad ?_)))))));refine yaa (slicePart_none ?_);show wpAny _ _ (if ((1:Int) == 0)=true then _ else _) _ _ s;rw [if_neg (by decide)];refine yaa (zeF pl (yaa (zeF pu (yaa (yad ?_)))));show wpAny _ _ (match Builtin.Slice.sliceAdjust lo hi 1 (n:Int) with | (lo,hi)=>pure (lo,(1:Int),Builtin.Slice.slicePlaces lo hi 1)) _ _ s;rw [ziM lo hi n];show wpAny _ _ (pure (((sIx n 0 lo:Nat):Int),(1:Int),Builtin.Slice.slicePlaces ((sIx n 0 lo:Nat):Int) ((sIx n n hi:Nat):Int) 1)) _ _ s;rw [zit];exact yad h
def zly(xs:Array Value)(i k:Nat):((List.range k).filterMap fun (m:Nat)=>xs[((i:Int)+(m:Int)*1).toNat]?).toArray=((xs.toList.drop i).take k).toArray:=by
 have e:(fun (m:Nat)=>xs[((i:Int)+(m:Int)*1).toNat]?)=fun m=>xs[i+m]?:=by
  funext m
  have:((i:Int)+(m:Int)*1).toNat=i+m:=by omega
  rw [this]
 rw [e];have:=pick_run xs i k;rw [List.filterMap_map] at this;have e2:((fun x=>xs[x]?)∘fun x=>i+x)=fun m=>xs[i+m]?:=rfl
 rw [e2] at this;rw [this]
def zdv{t sl:Addr}{items:Array Value}{vl vu:Value}{lo hi:Option Int}{Q:Z5}(ht:IsTup s.heap t items)(hs:s.heap.IsSliceOf sl vl vu .none)(pl:IsPart vl lo)(pu:IsPart vu hi)
  (hw:¬ (sIx items.size 0 lo=0/\sIx items.size items.size hi=items.size))
  (h:Q (.ref s.heap.objs.size) { s with heap:=s.heap.push { cls:=.type "tuple",data:=.seq ((items.toList.drop (sIx items.size 0 lo)).take (sIx items.size items.size hi-sIx items.size 0 lo)).toArray } })
  (hsz:items.size<=sizeLine):wpAny (model prog w) A (getItem (.ref t) (.ref sl)) Q E s:=by
 have htake:sizeOk (.seq ((items.toList.drop (sIx items.size 0 lo)).take (sIx items.size items.size hi-sIx items.size 0 lo)).toArray):=by
  show ((items.toList.drop (sIx items.size 0 lo)).take (sIx items.size items.size hi-sIx items.size 0 lo)).toArray.size<=sizeLine;rw [yag,yaI,yb2,yaB];omega
 have hj:sIx items.size items.size hi<=items.size:=zqA _ _ (yal _) hi;obtain ⟨os,hos,hcs,hds⟩:=id hs;have hTs:s.TypeIs (.ref sl) "slice":=⟨os,hos,hcs⟩;unfold getItem
 try with_reducible refine ya5 ?_
 first | refine yaa (yad ?_) | skip
 refine yaa (wpAny_sequenceKey ht.typeIs (by decide) ?_)
 refine yaa (yaT (name:=Str.ofString "__getitem__") ht.typeIs ya0
  (yaN ya0 ht.typeIs entry_tuple_getitem ?_ (args_tuple_getitem _ _)))
 show wpAny _ _ (Builtin.Tuple.tupleItemsOf (.ref t) >>= _) _ _ s;refine yaa (tupleItemsOf_ ht ?_);refine yaa (ycM hTs ?_);rw [if_pos (by decide)];refine yaa (zb8 hs pl pu ?_)
 have hno:¬ ((((sIx items.size 0 lo:Nat):Int) == 0&&(1:Int) == 1&&(sIx items.size items.size hi-sIx items.size 0 lo) == items.size)=true):=by
  intro q;rw [yab,yab] at q;have q1:((sIx items.size 0 lo:Nat):Int)=0:=eq_of_beq q.1.1;have q2:sIx items.size items.size hi-sIx items.size 0 lo=items.size:=eq_of_beq q.2;exact hw ⟨by omega,by omega⟩
 show wpAny _ _ (if (((sIx items.size 0 lo:Nat):Int) == 0&&(1:Int) == 1&&(sIx items.size items.size hi-sIx items.size 0 lo) == items.size)=true then _ else _) _ _ s;rw [if_neg hno,zly]
 first
  | exact yaa (m:=Builtin.Tuple.tupleExact _) (yaR (yad ⟨_,rfl,yad h⟩) htake)
  | exact yaa (m:=Builtin.Tuple.tupleExact _) (yaR (yaa (yad (yad ⟨_,rfl,yad h⟩))) htake)
  | exact yaa (yaa (m:=Builtin.Tuple.tupleExact _) (yaR (yad (yad ⟨_,rfl,yad h⟩)) htake))
  | exact yaa (yaa (m:=Builtin.Tuple.tupleExact _) (yaR (yad ⟨_,rfl,yad h⟩) htake))
end
end HT
namespace L2
open PySem PySem.Spec PyProof.Rows
noncomputable abbrev TO:=St->Hp->(Option Int->Hp->Prop)->Prop
noncomputable def PO(X:Cx)(e:Option Expr)(t:TO):Prop :=
 ∀(pins:Z3) (s:Shared) (σ:St) (H:Hp) (Q:Option Int->Hp->Prop),Inv X pins σ H s->t σ H Q →
  wpAny (model X.prog X.w) X.A (evalPart e X.env) (fun u s'=>∃o H',Inv X pins σ H' s'/\IsPart u o/\Q o H') X.xe s
noncomputable def zi7:TO:=fun _ H Q=>Q none H
noncomputable def zpU(t:TE):TO:=fun σ H Q=>t σ H fun x H1=>∃i,x=.int i/\Q (some i) H1
section
variable{X:Cx}{e:Expr}{te:TE}{lo hi:Option Expr}{tl th:TO}{pos p2:Pos}
def zoj:PO X none zi7:=by
 intro pins s σ H Q I h;rw [evalPart_none];exact yad ⟨none,H,I,.none,h⟩
def zoi(h:PE X e te):PO X (some e) (zpU te):=by
 intro pins s σ H Q I hw;rw [evalPart_some];refine thn (h pins s σ H _ I hw) fun u s1 ⟨x,H1,I1,r1,q1⟩=>?_
 obtain ⟨i,rfl,q⟩:=q1;obtain ⟨t,rfl⟩:=r1;exact ⟨some i,H1,I1,.int i t,q⟩
noncomputable def SlR(X:Cx)(r:V->Option Int->Option Int->Hp->VK->Prop):Prop :=
 ∀(pins:Z3) (s:Shared) (σ:St) (H:Hp) (x:V) (v vl vu:Value) (lo hi:Option Int) (sl:Addr) (Q:VK),Inv X pins σ H s->zaJ x v->s.heap.IsSliceOf sl vl vu .none->IsPart vl lo->IsPart vu hi->r x lo hi H Q →
  ∃T id,typeLookup (.type T) "__getitem__" = pure (some (.builtin id))/\s.TypeIs v T/\wpAny (model X.prog X.w) X.A (getItem v (.ref sl)) (EP X pins σ Q) X.xe s
noncomputable def tSl(r:V->Option Int->Option Int->Hp->VK->Prop)(te:TE)(tl th:TO):TE:=fun σ H Q=>te σ H fun x H1=>tl σ H1 fun l H2=>th σ H2 fun u H3=>r x l u H3 Q
def zlC{r:V->Option Int->Option Int->Hp->VK->Prop}(hr:SlR X r)(he:PE X e te)(hl:PO X lo tl)(hu:PO X hi th):PE X (.Subscript e (.Slice lo hi none p2) pos) (tSl r te tl th):=by
 intro pins s σ H Q I h;refine Subscript_ (thn (he pins s σ H _ I h) fun v s1 ⟨x,H1,I1,r1,q1⟩=>?_);refine wpAny_Slice (thn (hl pins s1 σ H1 _ I1 q1) fun vl s2 ⟨l,H2,I2,pl,q2⟩=>thn (hu pins s2 σ H2 _ I2 q2) fun vu s3 ⟨u,H3,I3,pu,q3⟩=>?_);rw [evalPart_none];refine yad ?_;have I4:Inv X pins σ H3 { s3 with heap:=s3.heap.push { cls:=.type "slice",data:=.fields #[vl,vu,.none] } }:=I3.kept (t':=s3.toks) fun b ob q=>yae _ q
 obtain ⟨T,id,hT,ht,hg⟩:=hr pins { s3 with heap:=s3.heap.push { cls:=.type "slice",data:=.fields #[vl,vu,.none] } } σ H3 x v vl vu l u s3.heap.objs.size Q I4 r1 (Heap.IsSliceOf.new ..) pl pu q3;show wpAny (model X.prog X.w) X.A (subscriptTail e (.Slice lo hi none p2) v (.ref s3.heap.objs.size)) (EP X pins σ Q) X.xe { s3 with heap:=s3.heap.push { cls:=.type "slice",data:=.fields #[vl,vu,.none] } };exact tail_any (ops:=[.ref s3.heap.objs.size,v]) ht hT hg (by with_unfolding_all rfl)
noncomputable def znr(xs:List V)(lo hi:Option Int):List V:=(xs.drop (HT.sIx xs.length 0 lo)).take (HT.sIx xs.length xs.length hi-HT.sIx xs.length 0 lo)
def zes(xs:List V)(lo hi:Option Int):(znr xs lo hi).length<=xs.length:=by
 unfold znr;rw [yaI,yb2];omega
noncomputable def zxA(K:PySem.W.Frag):V->Option Int->Option Int->Hp->VK->Prop:=fun x lo hi H Q=>∃a xs,x=.ref a/\SqT K H a xs ∧
 ¬ (HT.sIx xs.length 0 lo=0/\HT.sIx xs.length xs.length hi=xs.length)/\∀p,H p=none->Q (.ref p) (upd H p (.tup (znr xs lo hi)))
def zqf:SlR X (zxA X.K):=by
 intro pins s σ H x v vl vu lo hi sl Q I rx hs pl pu h;obtain ⟨a,xs,rfl,hx,hw,q⟩:=h;cases rx;obtain ⟨its,r,ht,hz⟩:=I.tuple hx
 have hlen:its.toArray.size=xs.length:=by rw [yag];exact r.length.symm
 refine ⟨"tuple",_,ya0.lookup,ht.typeIs,?_⟩;refine HT.zdv ht hs pl pu (by rw [hlen];exact hw) ?_ (by rw [hlen];exact hz);rw [hlen];refine ⟨.ref s.heap.objs.size,_,I.laid (t':=s.toks) (o:=.tup (znr xs lo hi)) (fun b ob q=>yae _ q) (yal _) ?_,rfl,q _ (I.hok.fresh (yal _))⟩;exact ⟨yao (zes xs lo hi) hz,_,(r.drop (HT.sIx xs.length 0 lo)).take (HT.sIx xs.length xs.length hi-HT.sIx xs.length 0 lo),IsTup.new _ _⟩
noncomputable def zty(K:PySem.W.Frag):R2:=fun x y H Q=>∃a b xs ys,x=.ref a/\y=.ref b/\SqT K H a xs/\SqT K H b ys/\xs≠[]/\xs.length+ys.length<=sizeLine ∧
 (ys=[]->Q (.ref a) H)/\(ys≠[]->∀p,H p=none->Q (.ref p) (upd H p (.tup (xs++ys))))
def Vals.nil_iff{xs:List V}{us:List Value}(r:Vals xs us):us=[]↔xs=[]:=by
 cases r with
 | nil=>simp
 | cons _ _=>simp
def zow:OpR X (binaryOp .Add) (zty X.K):=by
 intro pins s σ H x y v u Q I rx ry h;obtain ⟨a,b,xs,ys,rfl,rfl,ha,hb,hx,hz,q1,q2⟩:=h;cases rx;cases ry;obtain ⟨its,r1,p1,_⟩:=I.tuple ha;obtain ⟨its2,r2,p2,_⟩:=I.tuple hb;refine HT.zpg p1 p2 (fun z=>hx (r1.nil_iff.mp z)) (fun z=>⟨.ref a,H,I,rfl,q1 (r2.nil_iff.mp z)⟩) (fun z=>?_) (by rw [<-r1.length,<-r2.length];exact hz);refine ⟨.ref s.heap.objs.size,_,I.laid (t':=s.toks) (o:=.tup (xs++ys)) (fun b ob q=>yae _ q) (yal _) ?_,rfl,q2 (fun w=>z (r2.nil_iff.mpr w)) _ (I.hok.fresh (yal _))⟩;exact ⟨by rw [yaw];exact hz,_,r1.append r2,IsTup.new _ _⟩
end
end L2
namespace L2
open PySem PySem.Spec PyProof.Rows
noncomputable def ixN(n:Nat)(i:Int):Option Nat:=if 0<=i then (if i<n then some i.toNat else none) else if -(n:Int)<=i then some (i+n).toNat else none
noncomputable def atI{α:Type}(xs:List α)(i:Int):Option α:=(ixN xs.length i).bind fun j=>xs[j]?
def zke{n:Nat}{i:Int}{j:Nat}(h:ixN n i=some j):seqIndex? i n=some j/\j<n/\-(n:Int)<=i/\i<n:=by
 unfold ixN at h
 by_cases h0:0<=i
 ·rw [if_pos h0] at h
  by_cases h1:i<n
  ·rw [if_pos h1] at h;have e:i.toNat=j:=Option.some.inj h;exact ⟨by rw [seqIndex_of h0 h1,e],by omega,by omega,h1⟩
  ·rw [if_neg h1] at h;cases h
 ·rw [if_neg h0] at h
  by_cases h1:-(n:Int)<=i
  ·rw [if_pos h1] at h;have e:(i+n).toNat=j:=Option.some.inj h;exact ⟨by rw [seqIndex_neg (by omega) h1,e],by omega,h1,by omega⟩
  ·rw [if_neg h1] at h;cases h
def zk0{α:Type}{xs:List α}{i:Int}{v:α}(h:atI xs i=some v):∃j,seqIndex? i xs.length=some j/\xs[j]?=some v/\j<xs.length/\-(xs.length:Int)<=i/\i<xs.length:=by
 unfold atI at h
 cases e:ixN xs.length i with
 | none=>rw [e] at h;cases h
 | some j =>
  rw [e] at h;obtain ⟨h1,h2,h3,h4⟩:=zke e;exact ⟨j,h1,h,h2,h3,h4⟩
noncomputable def zfF(b:Expr):Prop:=∀o i,subscripted b false o i=operate [o,i] (getItem o i)
noncomputable def IxR(X:Cx)(r:R2):Prop :=
 ∀(value slice:Expr) (pins:Z3) (s:Shared) (σ:St) (H:Hp) (x y:V) (v u:Value) (Q:VK),Inv X pins σ H s->zaJ x v->zaJ y u->r x y H Q →
  subscripted slice false v u=operate [v,u] (getItem v u)->wpAny (model X.prog X.w) X.A (subscriptTail value slice v u) (EP X pins σ Q) X.xe s
noncomputable def MtR(X:Cx)(id:String)(r:V->List V->Hp->VK->Prop):Prop :=
 ∀(pins:Z3) (s:Shared) (σ:St) (H:Hp) (x:V) (xs:List V) (v:Value) (us:List Value) (Q:VK),Inv X pins σ H s->zaJ x v->Vals xs us->r x xs H Q →
  wpAny (model X.prog X.w) X.A (call (.builtin id) (v::us)) (EP X pins σ Q) X.xe s
section
variable{X:Cx}{a b:Expr}{ta tb:TE}{pos:Pos}
def zq2{r:R2}(hr:IxR X r)(ha:PE X a ta)(hb:PE X b tb)(hs:zfF b):PE X (.Subscript a b pos) (tOp r ta tb):=by
 intro pins s σ H Q I h;exact Subscript_ (zur ha hb I h fun v u s2 x y H2 I2 rx ry q=>hr a b pins s2 σ H2 x y v u Q I2 rx ry q (hs _ _))
noncomputable def zxE(K:PySem.W.Frag):R2:=fun x y H Q=>∃p xs i v,x=.ref p/\y=.int i/\SqL K H p xs/\atI xs i=some v/\Q v H
noncomputable def zxD(K:PySem.W.Frag):R2:=fun x y H Q=>∃p xs i v,x=.ref p/\y=.int i/\SqT K H p xs/\atI xs i=some v/\Q v H
def zkd:IxR X (zxE X.K):=by
 intro value slice pins s σ H x y v u Q I rx ry h hs;obtain ⟨p,xs,i,z,rfl,rfl,hq,he,q⟩:=h;cases rx;obtain ⟨t,rfl⟩:=ry;obtain ⟨its,r,pl,hz⟩:=I.list hq;obtain ⟨j,h1,h2,h3,h4,h5⟩:=zk0 he;obtain ⟨w,ew,rw'⟩:=r.get h2;have hl:=r.length;have hn:=zgd;have fin:EP X pins σ Q w s:=⟨z,H,I,rw',q⟩
 by_cases h0:0<=i
 ·have hj:i.toNat=j:=by
   rw [seqIndex_of h0 h5] at h1;exact Option.some.inj h1
  exact item_listR pl.isList h0 (by omega) (by rw [hj];simpa using ew) fin hs
 ·have hj:(i+(its.toArray.size:Int)).toNat=j:=by
   rw [seqIndex_neg (by omega) h4] at h1;rw [yag,<-hl];exact Option.some.inj h1
  exact yck (x:=w) pl.isList.typeIs slot_list_getitem.lookup
   (wpAny_getItem_list_neg (Q:=fun r s'=>r=w/\EP X pins σ Q r s') pl.isList (by omega) (by rw [yag]<;>omega) (by omega) (by rw [hj];simpa using ew) ⟨rfl,fin⟩) hs
def zrG:IxR X (zxD X.K):=by
 intro value slice pins s σ H x y v u Q I rx ry h hs;obtain ⟨p,xs,i,z,rfl,rfl,hq,he,q⟩:=h;cases rx;obtain ⟨t,rfl⟩:=ry;obtain ⟨its,r,pl,hz⟩:=I.tuple hq;obtain ⟨j,h1,h2,h3,h4,h5⟩:=zk0 he;obtain ⟨w,ew,rw'⟩:=r.get h2;have hl:=r.length;have hn:=zgd;have fin:EP X pins σ Q w s:=⟨z,H,I,rw',q⟩
 exact yck (x:=w) pl.typeIs slot_tuple_getitem.lookup
  (getItem_tuple (j:=j) (Q:=fun r s'=>r=w/\EP X pins σ Q r s') pl (by omega) (by omega) (by rw [yag,<-hl];exact h1) (by simpa using ew) ⟨rfl,fin⟩) hs
def zix(its:List Value)(n j:Nat)(u:Value):Obj.mapSeq (·.setIfInBounds j u) { cls:=.type "list",data:=.seq its.toArray n }={ cls:=.type "list",data:=.seq (its.set j u).toArray n }:=by
 simp [Obj.mapSeq]
theorem Inv.lst{pins:Z3}{σ:St}{H:Hp}{s:Shared}{p:Addr}{xs:List V}(I:Inv X pins σ H s)(h:H p=some (.lst xs)) :
  ∃(its:List Value) (n:Nat),Vals xs its/\s.heap.get? p=some { cls:=.type "list",data:=.seq its.toArray n }/\xs.length<=sizeLine:=by
 obtain ⟨z,its,n,r,e⟩:=I.hok p _ h;exact ⟨its,n,r,e,z⟩
def Inv.lstUpd{pins:Z3}{σ:St}{H:Hp}{s:Shared}{p:Addr}{xs ys:List V}{its its':List Value}{n n':Nat}{f:Obj->Obj}(I:Inv X pins σ H s)(h:H p=some (.lst xs))
  (ho:s.heap.get? p=some { cls:=.type "list",data:=.seq its.toArray n }) (hf:f { cls:=.type "list",data:=.seq its.toArray n }={ cls:=.type "list",data:=.seq its'.toArray n' }) (r:Vals ys its') (hz:ys.length<=sizeLine) (t:Nat) :
  Inv X pins σ (upd H p (.lst ys)) { s with heap:=s.heap.update p f,toks:=t }:=by
 have e:(s.heap.update p f).get? p=some { cls:=.type "list",data:=.seq its'.toArray n' }:=by
  rw [ybl f ho (by rw [hf]<;>rfl),hf]
 refine I.write (x:=p) (e:=p) (by rw [h];trivial) (.inl rfl) (fun b u hb q=>(Heap.get?_update_other _ _ (Ne.symm hb)).trans q) ⟨_,e⟩ ?_;exact ⟨hz,its',n',r,e⟩
noncomputable def ztx:V->V->V->Hp->(Hp->Prop)->Prop:=fun o i v H Q=>∃p xs k j,o=.ref p/\i=.int k/\H p=some (.lst xs)/\ixN xs.length k=some j/\Q (upd H p (.lst (xs.set j v)))
def zlk:zuH X ztx:=by
 intro pins s σ H o i v ov iv u Q I ro ri rv h;obtain ⟨p,xs,k,j,rfl,rfl,hp,hj,q⟩:=h;cases ro;obtain ⟨t,rfl⟩:=ri;obtain ⟨its,n,r,ho,hz⟩:=I.lst hp;obtain ⟨h1,h2,h3,h4⟩:=zke hj;have hl:=r.length;have hn:=zgd
 have I':Inv X pins σ (upd H p (.lst (xs.set j v))) { s with heap:=s.heap.update p (Obj.mapSeq (·.setIfInBounds j u)) } :=
  I.lstUpd hp ho (zix its n j u) (r.set rv j) (by rw [yay];exact hz) s.toks
 by_cases h0:0<=k
 ·have hk:k.toNat=j:=by
   rw [seqIndex_of h0 h4] at h1;exact Option.some.inj h1
  exact PySem.W.ki_setAt ho h0 (by omega) (by rw [yag,<-hl];exact h4) (by rw [hk];exact ⟨_,I',q⟩)
 ·have hk:(k+(its.toArray.size:Int)).toNat=j:=by
   rw [seqIndex_neg (by omega) h3] at h1;rw [yag,<-hl];exact Option.some.inj h1
  exact PySem.W.ki_setBack ho (by omega) (by rw [yag,<-hl];exact h3) (by omega) (by rw [hk];exact ⟨_,I',q⟩)
def zfT(lo hi:Option Int)(n:Nat):(sliceBounds lo hi none n).1=((HT.sIx n 0 lo:Nat):Int)/\(sliceBounds lo hi none n).2.1=((HT.sIx n n hi:Nat):Int)/\(sliceBounds lo hi none n).2.2=1:=by
 refine ⟨?_,?_,rfl⟩
 ·cases lo with
  | none=>simp [sliceBounds,HT.sIx]
  | some i =>
   simp only [sliceBounds,HT.sIx,Option.getD_none,show (1:Int) > 0 by decide,ybP]
   by_cases h:i<0
   ·simp only [h,ybP]<;>omega
   ·simp only [h,yby]<;>omega
 ·cases hi with
  | none=>simp [sliceBounds,HT.sIx]
  | some i =>
   simp only [sliceBounds,HT.sIx,Option.getD_none,show (1:Int) > 0 by decide,ybP]
   by_cases h:i<0
   ·simp only [h,ybP]<;>omega
   ·simp only [h,yby]<;>omega
def ze4(its:List Value)(lo hi:Option Int):slicePick its.toArray lo hi none=((its.drop (HT.sIx its.length 0 lo)).take (HT.sIx its.length its.length hi-HT.sIx its.length 0 lo)).toArray:=by
 obtain ⟨h1,h2,h3⟩:=zfT lo hi its.toArray.size;unfold slicePick;rw [h1,h2,h3]
 simp only [sliceRange_one,pick_run,yag]<;>rfl
noncomputable def zxB(K:PySem.W.Frag):V->Option Int->Option Int->Hp->VK->Prop:=fun x lo hi H Q=>∃a xs,x=.ref a/\SqL K H a xs/\∀p,H p=none->Q (.ref p) (upd H p (.lst (znr xs lo hi)))
def znT:SlR X (zxB X.K):=by
 intro pins s σ H x v vl vu lo hi sl Q I rx hs pl pu h;obtain ⟨a,xs,rfl,hx,q⟩:=h;cases rx;obtain ⟨its,r,ht,hz⟩:=I.list hx;have hlen:=r.length;refine ⟨"list",_,slot_list_getitem.lookup,ht.isList.typeIs,?_⟩;refine wpAny_getItem_list_slice ht.isList hs pl pu .none (by simp) ?_ (by rw [yag]<;>omega);rw [ze4,<-hlen];refine ⟨.ref s.heap.objs.size,_,I.laid (t':=s.toks) (o:=.lst (znr xs lo hi)) (fun b ob q=>yae _ q) (yal _) ?_,rfl,q _ (I.hok.fresh (yal _))⟩;exact ⟨yao (zes xs lo hi) hz,_,0,(r.drop (HT.sIx xs.length 0 lo)).take (HT.sIx xs.length xs.length hi-HT.sIx xs.length 0 lo),yam _ rfl⟩
def zct:zdC X (.builtin "len") (fun xs H Q=>∃p ys,xs=[.ref p]/\(SqL X.K H p ys\/SqT X.K H p ys)/\Q (.int ys.length) H):=by
 intro pins s σ H xs us Q I r h;obtain ⟨p,ys,rfl,hq,q⟩:=h;obtain ⟨u,rfl,rx⟩:=zfK r;cases rx;have hn:=zgd
 rcases hq with hq | hq
 ·obtain ⟨its,r',pl,hz⟩:=I.list hq;have hlen:=r'.length;exact Calls.call_len_list pl.isList (by simp only [yag]<;>omega) ⟨.int ys.length,H,I.tok _,⟨s.toks+1,by rw [yag,hlen]⟩,q⟩
 ·obtain ⟨its,r',pl,hz⟩:=I.tuple hq;have hlen:=r'.length;exact len_tuple pl (by simp only [yag]<;>omega) ⟨.int ys.length,H,I.tok _,⟨s.toks+1,by rw [yag,hlen]⟩,q⟩
def zgt:zdC X (.builtin "len") (fun xs H Q=>∃z,xs=[.str z]/\z.length<=sizeLine/\Q (.int z.length) H):=by
 intro pins s σ H xs us Q I r h;obtain ⟨z,rfl,hz,q⟩:=h;obtain ⟨u,rfl,t,rfl⟩:=zfK r;have hn:=zgd;exact len_str (by omega) ⟨.int z.length,H,I.tok _,⟨_,rfl⟩,q⟩
def zdn:zdC X (.type "tuple") (fun xs H Q=>∃p ys,xs=[.ref p]/\((SqL X.K H p ys/\∀l,H l=none->Q (.ref l) (upd H l (.tup ys)))\/(SqT X.K H p ys/\Q (.ref p) H))):=by
 intro pins s σ H xs us Q I r h;obtain ⟨p,ys,rfl,h⟩:=h;obtain ⟨u,rfl,rx⟩:=zfK r;cases rx
 rcases h with ⟨hq,q⟩ | ⟨hq,q⟩
 ·obtain ⟨its,r',pl,hz⟩:=I.list hq;have hlen:=r'.length;refine call_tuple_list pl.isList (fun h' kp=>?_) (by simp only [yag]<;>omega);have I1:Inv X pins σ H { s with heap:=h' }:=I.kept (t':=s.toks) kp
  have I2:Inv X pins σ (upd H h'.objs.size (.tup ys)) { s with heap:=h'.push { cls:=.type "tuple",data:=.seq its.toArray } } :=
   I1.laid (t':=s.toks) (fun b o e=>yae _ e) (yal _) (show zba X.prog X.w _ _ _ (.tup ys) from ⟨hz,its,r',IsTup.new _ _⟩)
  exact ⟨.ref h'.objs.size,_,I2,rfl,q _ (I1.hok.fresh (yal _))⟩
 ·obtain ⟨its,r',pl,hz⟩:=I.tuple hq;exact call_tuple_same pl ⟨.ref p,H,I,rfl,q⟩
noncomputable def tyV(K:PySem.W.Frag)(T:String)(x:V)(H:Hp):Prop:=match x with
 | .str _=>T = "str"
 | .int _=>T = "int"
 | .ref p=>(T = "list" /\ ∃xs,SqL K H p xs)\/(T = "tuple" /\ ∃o,K.lookup p=some o/\o.cls=.type "tuple" /\ o.dict=none) ∨
   (T = "dict" /\ ((∃kvs,H p=some (.dK kvs))\/∃kvs,H p=some (.dT kvs)))\/(T = "set" /\ ∃S n,H p=some (.set S n))
 | _=>False
def zpN{pins:Z3}{σ:St}{H:Hp}{s:Shared}{T:String}{x:V}{v:Value}(I:Inv X pins σ H s)(r:zaJ x v)(ty:tyV X.K T x H) :
  s.TypeIs v T/\∀a,v=.ref a->∃ob,s.heap.get? a=some ob/\ob.dict=none:=by
 cases x with
 | str z =>
  obtain ⟨t,rfl⟩:=r;cases (show T = "str" from ty);exact ⟨typeIs_str s z t,fun _ e=>nomatch e⟩
 | int i =>
  obtain ⟨t,rfl⟩:=r;cases (show T = "int" from ty);exact ⟨ycD s i t,fun _ e=>nomatch e⟩
 | ref p =>
  cases r
  rcases ty with ⟨rfl,xs,hq⟩ | ⟨rfl,o,hk,hc,hd⟩ | ⟨rfl,hk⟩ | ⟨rfl,S,n,hk⟩
  ·obtain ⟨its,_,pl,_⟩:=I.list hq;refine ⟨pl.isList.typeIs,fun a e=>?_⟩;cases e;obtain ⟨o,n,e,c,hd,_⟩:=pl;exact ⟨o,e,hd⟩
  ·refine ⟨⟨o,I.kIn p o hk,hc⟩,fun a e=>?_⟩;cases e;exact ⟨o,I.kIn _ o hk,hd⟩
  ·have z:∃o,s.heap.get? p=some o/\o.ExactDict:=by
    rcases hk with ⟨kvs,hk⟩ | ⟨kvs,hk⟩
    ·obtain ⟨_,_,_,_,o,_,_,e,ex,_⟩:=I.hok p _ hk;exact ⟨o,e,ex⟩
    ·obtain ⟨_,_,_,_,o,_,_,e,ex,_⟩:=I.hok p _ hk;exact ⟨o,e,ex⟩
   obtain ⟨o,e,ex⟩:=z;refine ⟨⟨o,e,ex.1⟩,fun a e2=>?_⟩;cases e2;exact ⟨o,e,ex.2.1⟩
  ·obtain ⟨o,_,_,_,e,ex,_⟩:=I.hok p _ hk;refine ⟨⟨o,e,ex.1⟩,fun a e2=>?_⟩;cases e2;exact ⟨o,e,ex.2.1⟩
 | _=>exact False.elim ty
noncomputable def tBM(K:PySem.W.Frag)(T:String)(r:V->List V->Hp->VK->Prop)(to:TE)(t:TA):TE:=fun σ H Q=>to σ H fun x H1=>tyV K T x H1/\t σ H1 fun xs H2=>r x xs H2 Q
variable{o e:Expr}{es:List Expr}{to:TE}{t:TA}{name:Str}{apos cpos:Pos}{T id:String}{r:V->List V->Hp->VK->Prop}
def zq4(pa:PlainAttrs T)(slot:Slot T name id)(hty:typeOf (.builtin id)=pure (.type "method_descriptor"))(hm:MtR X id r)(ho:PE X o to)(ha:PA X (e::es) t)
  (hbase:attributeBase o name X.env (eval o X.env)=eval o X.env:=by rfl)
  (hfew:((backTo cpos (starEach (e::es) X.env)).all (fun x=>!x.1)&&(backToKw cpos (keywordEach [] X.env)).all (fun x=>x.1.isSome)
   && decide ((e::es).length+([]:List Keyword).length+(if ([]:List Keyword).isEmpty then 0 else 1)<30))=true:=by rfl)
  (hline:(apos.endLine == cpos.line)=true:=by rfl) (hs:starEach (e::es) X.env=(false,eval e X.env)::starEach es X.env:=by rfl) (hplain:(backTo cpos (starEach es X.env)).any (·.1)=false:=by rfl) :
  PE X (.Call (.Attribute o name apos) (e::es) [] cpos) (tBM X.K T r to t):=by
 intro pins s σ H Q I h;refine wpAny_Call_method_late hbase hfew hline rfl (thn (ho pins s σ H _ I h) fun v s1 ⟨x,H1,I1,r1,ty,q1⟩=>?_);obtain ⟨h1,h2⟩:=zpN I1 r1 ty;refine ⟨T,id,pa,slot,hty,h1,h2,?_⟩;have hA:=ha cpos pins s1 σ H1 _ I1 q1;rw [hs] at hA ⊢;refine ycl (by show (false||(backTo cpos (starEach es X.env)).any (·.1))=false;rw [hplain]<;>rfl) (ycx ?_);exact thn hA fun us s2 ⟨vs,H2,I2,r2,q2⟩=>hm pins s2 σ H2 x vs v us Q I2 r1 r2 q2
end
end L2
namespace L2
open PySem PySem.Spec PyProof.Rows
noncomputable def MtM(X:Cx)(id:String)(r:V->List V->Hp->VK->Prop):Prop :=
 ∀(pins:Z3) (s:Shared) (σ:St) (H:Hp) (x:V) (xs:List V) (v:Value) (us:List Value) (Q:VK),Inv X pins σ H s->zaJ x v->Vals xs us->r x xs H Q →
  wpAny (model X.prog X.w) X.A (call (.builtin id) (v::us)) (EP X pins σ Q) X.xe s
theorem Vals.one:∀{x:V} {us:List Value},Vals [x] us->∃u,us=[u]/\zaJ x u
 | _,_,.cons r .nil=>⟨_,rfl,r⟩
theorem Vals.rep{xs:List V}{us:List Value}(h:Vals xs us):∀k:Nat,Vals (List.replicate k xs).flatten (List.replicate k us).flatten
 | 0=>.nil
 | k+1=>by
  rw [ybg,ybg,ybB,ybB];exact Vals.append h (Vals.rep h k)
theorem zeo(its:List Value):∀(k:Nat) (acc:List Value),
  List.foldl (fun x1 x2=>x1++x2) acc.toArray (List.replicate k its.toArray)=(acc++(List.replicate k its).flatten).toArray
 | 0,acc=>by simp
 | k+1,acc=>by
  have e:acc.toArray++its.toArray=(acc++its).toArray:=by simp
  have e2:(acc++its)++(List.replicate k its).flatten=acc++(List.replicate (k+1) its).flatten:=by
   rw [ybg,ybB,ycn]
  rw [<-e2,<-zeo its k (acc++its),<-e,ybg,List.foldl_cons]
section
variable{X:Cx}{pins:Z3}{σ:St}{H:Hp}{s:Shared}{l b:Addr}{xs ys zs:List V}
def Inv.lset{its its':List Value}{n:Nat}{f:Array Value->Array Value}{t':Nat}(I:Inv X pins σ H s)(hH:H l=some (.lst xs))
  (e:s.heap.get? l=some { cls:=.type "list",data:=.seq its.toArray n }) (hf:f its.toArray=its'.toArray) (hv:Vals ys its') (hz:ys.length<=sizeLine) :
  Inv X pins σ (upd H l (.lst ys)) { s with heap:=s.heap.update l (Obj.mapSeq f),toks:=t' }:=by
 have q:=PySem.IsL.update e f;rw [hf] at q;refine I.write (x:=l) (e:=l) (by rw [hH];exact trivial) (.inl rfl) (fun b' u hb hu=>(Heap.get?_update_other s.heap (Obj.mapSeq f) (Ne.symm hb)).trans hu) ⟨_,q⟩ ?_;exact ⟨hz,its',_,hv,q⟩
def Inv.lnew{its:List Value}{t':Nat}(I:Inv X pins σ H s)(hv:Vals ys its)(hz:ys.length<=sizeLine) :
  Inv X pins σ (upd H s.heap.objs.size (.lst ys)) { s with heap:=s.heap.push { cls:=.type "list",data:=.seq its.toArray },toks:=t' } :=
 I.laid (fun _ _ q=>yae _ q) (yal _) ⟨hz,its,0,hv,yam _ rfl⟩
theorem Inv.fresh(I:Inv X pins σ H s):H s.heap.objs.size=none:=I.hok.fresh (yal _)
def Inv.lstM(I:Inv X pins σ H s)(hH:H l=some (.lst xs)):xs.length<=sizeLine/\∃(its:List Value) (n:Nat),Vals xs its/\xs.length=its.length/\s.heap.get? l=some { cls:=.type "list",data:=.seq its.toArray n }:=by
 obtain ⟨z,its,n,r,e⟩:=I.hok l _ hH;exact ⟨z,its,n,r,r.length,e⟩
def zlT{n:Nat}(h:n<=sizeLine):Builtin.List.listTooLong n=false:=by
 unfold Builtin.List.listTooLong;exact yaH (by omega)
end
section
variable{X:Cx}
noncomputable def zoc:V->List V->Hp->VK->Prop:=fun x vs H Q=>∃l xs y,x=.ref l/\vs=[y]/\H l=some (.lst xs)/\xs.length<sizeLine/\Q .non (upd H l (.lst (xs++[y])))
def zjW:MtM X "list.append" zoc:=by
 intro pins s σ H x vs v us Q I rx rv h;obtain ⟨l,xs,y,rfl,rfl,hH,hz,q⟩:=h;cases rx;obtain ⟨u,rfl,ru⟩:=rv.one;obtain ⟨z,its,n,r,hl,e⟩:=I.lstM hH;refine ycE F.slot_list_append ⟨_,e,rfl⟩ F.entry_list_append (F.args_list_append_2 _ _) (PySem.list_append l its.toArray n u (by rw [yag];omega)) ⟨e,?_⟩;refine ⟨.non,_,I.lset (its':=its++[u]) hH e (by simp) (r.append (.cons ru .nil)) ?_,rfl,q⟩;rw [yaw,List.length_singleton];omega
noncomputable def zxF:R2:=fun x y H Q=>∃l b xs zs,x=.ref l/\y=.ref b/\H l=some (.lst xs)/\H b=some (.lst zs)/\xs.length+zs.length<=sizeLine/\∀p,H p=none->Q (.ref p) (upd H p (.lst (xs++zs)))
def zrc:OpR X (binaryOp .Add) zxF:=by
 intro pins s σ H x y v u Q I rx ry h;obtain ⟨l,b,xs,zs,rfl,rfl,hH,hB,hz,q⟩:=h;cases rx;cases ry;obtain ⟨z,its,n,r,hl,e⟩:=I.lstM hH;obtain ⟨z2,its2,n2,r2,hl2,e2⟩:=I.lstM hB;refine PySem.P.add_list e e2 ?_ (by rw [yag,yag];omega)
 have ea:its.toArray++its2.toArray=(its++its2).toArray:=by simp
 rw [ea];exact ⟨.ref _,_,I.lnew (t':=s.toks) (r.append r2) (by rw [yaw];omega),rfl,q _ I.fresh⟩
noncomputable def zxC:R2:=fun x y H Q=>∃l k xs,x=.ref l/\y=.int k/\H l=some (.lst xs)/\-(2 ^ 63)<=k/\k<2 ^ 63/\xs.length*k.toNat<=sizeLine ∧
 ∀p,H p=none->Q (.ref p) (upd H p (.lst (List.replicate k.toNat xs).flatten))
def zg0{α:Type}(xs:List α)(k:Nat):(List.replicate k xs).flatten.length=k*xs.length:=by
 induction k with
 | zero=>simp
 | succ k ih=>rw [ybg,ybB,yaw,ih,Nat.succ_mul,Nat.add_comm]
def zm7:OpR X (binaryOp .Mult) zxC:=by
 intro pins s σ H x y v u Q I rx ry h;obtain ⟨l,k,xs,rfl,rfl,hH,h1,h2,hz,q⟩:=h;cases rx;obtain ⟨t,rfl⟩:=ry;obtain ⟨z,its,n,r,hl,e⟩:=I.lstM hH
 have hlen:its.toArray.size*k.toNat<=sizeLine:=by rw [yag,<-hl];exact hz
 have hcap:¬ its.toArray.size*k.toNat > (2 ^ 63-1) / 8:=by
  have:(sizeLine:Nat)<=(2 ^ 63-1) / 8:=by decide
  omega
 have hfit:¬ (!Builtin.List.listFitsIndex k)=true:=by
  rw [fitsIndex_both h1 h2];exact ya1
 have hlong:¬ Builtin.List.listTooLong (its.toArray.size*k.toNat)=true:=by
  rw [zlT hlen];exact ya1
 have hnew:List.foldl (fun x1 x2=>x1++x2) #[] (List.replicate (if its.toArray.isEmpty=true then 0 else k.toNat) its.toArray)=(List.replicate k.toNat its).flatten.toArray:=by
  have f0:∀m:Nat,List.foldl (fun x1 x2=>x1++x2) #[] (List.replicate m its.toArray)=(List.replicate m its).flatten.toArray:=fun m=>by
   have:=zeo its m [];rwa [List.nil_append] at this
  rw [f0]
  cases its with
  | nil=>simp
  | cons a r'=>rw [if_neg (by simp)]
 refine ybY (T:="list") (U:="int") (by decide) ⟨_,e,rfl⟩ (fun s'=>ycD s' k t) noFill_list_mul F.fills_int_mul ybQ repeat_list F.slot_int_index.lookup
  (ycE ybQ (ycD s k t) F.entry_int_rmul (ycV _ _) (int___rmul___int_list k t l its.toArray n)
   ⟨e,rfl,⟨_,e,rfl⟩,ycE F.slot_list_mul ⟨_,e,rfl⟩ F.entry_list_mul (F.args_list_mul_2 _ _) (AutoListH.list___mul___list_int_3 l its.toArray n k t hfit hcap hlong) ⟨e,?_⟩⟩)
 rw [hnew];exact ⟨.ref _,_,I.lnew (t':=s.toks) (r.rep k.toNat) (by rw [zg0,Nat.mul_comm];exact hz),rfl,q _ I.fresh⟩
end
section
variable{prog:Program}{w:World}{A:Around}{E:Z5}{s:Shared}
end
section
variable{X:Cx}
end
end L2
namespace Att
open PySem PySem.W PySem.Calls PyProof.Rows
def zem{P:Params}{h:Heap}:∀(ns:List Int) (vs:List Value),WellAll P h vs (ns.map WData.int)->IntsAre vs ns:=by
 intro ns
 induction ns with
 | nil =>
  intro vs w;rw [List.map_nil] at w;cases w;exact .nil
 | cons n ns ih =>
  intro vs w;rw [yau] at w
  cases w with
  | cons a b =>
   cases a;exact .cons _ _ (ih _ b)
def zjl{l:OpenLaw}{n:Nat}(hn:l.most=some n){P:Params}{h:Heap}{args:List WData}{vals:List Value}
  (hpre:l.row.toRowW.claim.pre args=true) (hwl:WellAll P h vals args) :
  ∃a vs ns,vals=[Value.ref a]/\args=[WData.list (ns.map WData.int)]/\h.get? a=some { cls:=.type "list",data:=.seq vs.toArray }/\IntsAre vs ns/\ns.length<=n:=by
 have hsh:WShape.hasAll [] args [.list .int]=true:=(pre_splitW hpre).1;have hc:l.pre.holds [] { args:=args }=true:=(pre_splitW hpre).2;obtain ⟨d,r,rfl,h1,h2⟩:=hasAllW_cons hsh;obtain rfl:=hasAllW_nil h2;obtain ⟨xs,rfl,h3⟩:=hasW_list h1;obtain ⟨ns,rfl⟩:=items_int h3
 have hlen:ns.length<=n:=by
  unfold OpenLaw.pre at hc
  have h4:(WTm.not (.lt (.lit (.int (n:Int))) (.len (.arg 0)))).holds [] { args:=[.list (ns.map .int)] }=true:=by
   have h4:=(holds_andW hc).1;rwa [hn] at h4
  have h5:=condW_of h4 (w_not (w_lt w_lit (w_len_list (w_arg rfl))));rw [yaf] at h5;refine Nat.le_of_not_lt fun q=>?_
  have q':(n:Int)<((ns.length:Nat):Int):=by omega
  first
   | (rw [yaQ q'] at h5;exact absurd h5 (by decide))
   | (simp at h5;omega)
 cases hwl with
 | cons w1 w2 =>
  cases w2
  cases w1 with
  | list ho hall=>exact ⟨_,_,ns,rfl,rfl,ho,zem ns _ hall,hlen⟩
def zjD(l:OpenLaw)(args:List WData):l.row.toRowW.claim.post args (.bool true) args=true :=
 postW_of (r:=l.row.toRowW) (X:=(true == true))
  (show WShape.has [] (.bool true) .bool=true by first | rfl | decide | simp [WShape.has,WShape.arms,WShape.armsAll])
  (show (WTm.eq .res (.lit (.bool true))).value [] { args:=args,res:=some (.bool true),after:=args }=some (.bool (true == true)) from w_eq_bool (w_res rfl) w_lit) rfl
def zhf{l:OpenLaw}{n:Nat}{q:Program}{loose:List Str}{XP:(Str->Option Value)->Heap->Prop}{YP:World->Heap->Prop}{d:DefRec}
  (hn:l.most=some n) (hdf:d.params.defaults=[])
  (call:∀(w:World) (s₀ s₁:Shared) (mg mb:Z6) (fa:Addr) (o:Obj) (pm cd doc:Value) (a:Addr) (vs:List Value) (ns:List Int),
   Ground q loose [] XP w s₀ mg mb s₁.heap->YP w s₁.heap →
   s₁.heap.get? fa=some o->o.data=.func (docDef d.name d.params d.body d.scope pm cd doc)->s₁.heap.CodeRec cd d.name->mg d.name=some (.ref fa) →
   s₁.heap.get? a=some { cls:=.type "list",data:=.seq vs.toArray }->IntsAre vs ns->ns.length<=n->s₁.gens=#[] →
   codeAny (model l.prog w) callerA (.call (.ref fa) ⟨[.ref a],[]⟩) (fun r s'=>r=.ok (.ret (.bool true))/\OldK s₁.heap s'.heap/\s'.os=s₁.os/\AllBare s'.gens) s₁) :
  WalkO q loose XP YP l.row.toRowW d [] (fun f vs=>PySem.call f vs):=by
 intro w s₀ s₁ mg mb G Y fa o pm cd doc dV kV ho hd hcd hD hmg hg args vals as hpre hlay hrd hwl hlo;obtain rfl:dV=.none:=Dflts.none hD hdf;obtain rfl:kV=.none:=Dflts.noKw hD;obtain ⟨a,vs,ns,rfl,rfl,hobj,hints,hlen⟩:=zjl hn hpre hwl;refine enter_call (yct (call w s₀ s₁ mg mb fa o pm cd doc a vs ns G Y ho (fd_plain hd) hcd hmg hobj hints hlen hg) fun r s' hq=>?_);obtain ⟨rfl,h2,h3,h4⟩:=hq;exact ⟨.inl ⟨.bool true,.bool true,[],rfl,fun _=>rfl,.bool true,zjD l _,fun _=>⟨List.Pairwise.nil,fun _ hm=>(nomatch hm)⟩⟩,h2,h3,h4⟩
section
variable{prog:Program}{w:World}{A:Around}{E:Z5}{s:Shared}{K:Frag}
end
end Att
namespace L2
open PySem PySem.Spec PyProof.Rows
theorem zfJ:∀{vs:List Value} {ns:List Int},IntsAre vs ns->Vals (ns.map V.int) vs
 | _,_,.nil=>.nil
 | _,_,.cons n t h=>.cons ⟨t,rfl⟩ (zfJ h)
noncomputable def zsM(H:Hp):Prop:=∀b,H b=none\/∃o xs,H b=some (.frz o (.lst xs))
def zl9{P:Program}{w:World}{K:PySem.W.Frag}{mg mb:Z6}{CX:CXT}{k:Nat}{fa a:Addr}{fd:FuncData}{x:Str}{sp:Sp}{s₁:Shared}{vs:List Value}{ns:List Int}
  (KX:K.In s₁.heap) (hns:s₁.heap.Ns mainGlobals mg) (hb:s₁.heap.Ns builtinsNs mb) (hbb:∀x:Str,x ≠ "__name__" -> mb x=bootBuiltins x) (hlim:s₁.heap.NoLimit) (hg:s₁.gens=#[])
  (ha:s₁.heap.get? a=some { cls:=.type "list",data:=.seq vs.toArray }) (hi:IntsAre vs ns) (hl:ns.length<=sizeLine) (hr:Room k callerA)
  (F:∀base:Heap,K.In base->base.Ns mainGlobals mg->FnOk P w K mg base CX k fa fd [x] sp) (hbind:∀(s:Shared) (u:Value),BindsTo s fd ⟨[u],[]⟩ [(x,u)])
  (hsp:∀H:Hp,zsM H->SqL K H a (ns.map V.int)->sp [.ref a] H (fun v _=>v=.bl true) fun _ _ _=>False)
  (hCX:∀H e s',CX [] H s₁ (fun _ _ _=>False) e s'->False) :
  codeAny (model P w) callerA (.call (.ref fa) ⟨[.ref a],[]⟩) (fun r s'=>r=.ok (.ret (.bool true))/\OldK s₁.heap s'.heap/\s'.os=s₁.os/\AllBare s'.gens) s₁:=by
 have rv:=zfJ hi;have lenV:=hi.length
 have core:∀H:Hp,zsM H->SqL K H a (ns.map V.int)->HOk P w H s₁.heap->(∀b,H b≠none->b=a)->(H a≠none->K.lookup a=none) →
   codeAny (model P w) callerA (.call (.ref fa) ⟨[.ref a],[]⟩) (fun r s'=>r=.ok (.ret (.bool true))/\OldK s₁.heap s'.heap/\s'.os=s₁.os/\AllBare s'.gens) s₁:=by
  intro H hO hS hok hA hK;have zc0:∀{b:Addr} {o:Obj},s₁.heap.get? b=some o->H b=none->(zmn s₁.heap H).get? b=some o:=fun e n=>zmm e n
  have noA:∀{b:Addr} {o:Obj} {es:Array DictEntry} {ep:Nat},s₁.heap.get? b=some o->o.data=.dict es ep->H b=none:=fun {b o es ep} e d=>by
   cases q:H b with
   | none=>rfl
   | some u =>
    have e':b=a:=hA b (by rw [q];simp);subst e';rw [ha] at e;cases e;have d':Data.seq vs.toArray _=Data.dict es ep:=d;cases d'
  have nsK:∀{b:Addr} {m:Z6},s₁.heap.Ns b m->(zmn s₁.heap H).Ns b m:=fun {b m} ⟨o,es,ep,e,d,r⟩=>⟨o,es,ep,zc0 e (noA e d),d,r⟩
  have hKb:K.In (zmn s₁.heap H):=fun b o e=>zc0 (KX b o e) (by
   cases q:H b with
   | none=>rfl
   | some u =>
    have e':b=a:=hA b (by rw [q];simp);subst e'
    rw [hK (by rw [q];simp)] at e;cases e)
  have hM:Mod K mg (zmn s₁.heap H):=⟨hKb,nsK hns,⟨mb,nsK hb,hbb⟩,let ⟨mc,h1,h2⟩:=hlim;⟨mc,nsK h1,h2⟩⟩;have e0:Env0 P w K mg (zmn s₁.heap H) callerA [] s₁ H:=⟨rfl,hM,fun b o e=>zoy e,ycK (zkn _ _),trivial,fun b hb=>absurd (show b∈([]:List Addr) from hb) (by simp),hok,.of_eq hg⟩;refine yct ((F _ hKb (nsK hns)).run callerA [] s₁ H ⟨[.ref a],[]⟩ [.ref a] [.ref a] _ _ hr e0 (hbind s₁ (.ref a)) (.cons rfl .nil) (hsp H hO hS)) fun r s' h=>?_
  cases r with
  | error e=>exact (hCX H e s' h).elim
  | ok fl =>
   cases fl with
   | next=>exact False.elim h
   | brk=>exact False.elim h
   | cont=>exact False.elim h
   | ret u =>
    obtain ⟨v,H',os,bare,un,hok',r',q⟩:=h;have q':v=.bl true:=q;subst q';obtain rfl:u=Value.bool true:=r';refine ⟨rfl,OldK.of_keep fun b o e=>?_,os,bare⟩
    cases q:H b with
    | none=>exact un.keep b o e q (by intro z;exact absurd (show b∈([]:List Addr) from z) (by simp)) (by simp)
    | some u =>
     rcases hO b with z | ⟨ob,xs,z⟩
     ·rw [q] at z;cases z
     ·have z2:=un.frzs b ob _ z;obtain ⟨e1,_⟩:=hok b _ z;obtain ⟨e2,_⟩:=hok' b _ z2;rw [e] at e1;cases e1;exact e2
 cases hk:K.lookup a with
 | some o =>
  have e:=KX a o hk;rw [ha] at e;cases e;refine core (fun _=>none) (fun _=>.inl rfl) (.inr ⟨_,vs.toArray,_,hk,rfl,rfl,rfl,by rw [yag,lenV];exact hl,by simpa using rv⟩) (fun b u z=>by have z':(none:Option HO)=some u:=z;cases z') (fun b z=>absurd rfl z) fun z=>absurd rfl z
 | none =>
  refine core (fun b=>if b=a then some (.frz { cls:=.type "list",data:=.seq vs.toArray } (.lst (ns.map V.int))) else none) (fun b=>?_) (.inl (.inr ⟨{ cls:=.type "list",data:=.seq vs.toArray },if_pos rfl⟩)) (fun b u z=>?_) (fun b z=>?_) fun _=>hk
  ·by_cases hb:b=a
   ·exact .inr ⟨_,_,if_pos hb⟩
   ·exact .inl (if_neg hb)
  ·by_cases hb:b=a
   ·have z':=(if_pos hb).symm.trans z;cases z';subst hb;exact ⟨ha,by rw [yaf];exact hl,vs,_,rv,ha⟩
   ·have z':=(if_neg hb).symm.trans z;cases z'
  ·by_cases hb:b=a
   ·exact hb
   ·exact absurd (if_neg hb) z
end L2
namespace L2
open PySem PySem.Spec PyProof.Rows
def zny{l:PySem.W.OpenLaw}{n k:Nat}{q:Program}{loose:List Str}{XP:(Str->Option Value)->Heap->Prop}{YP:World->Heap->Prop}{d:DefRec}{K:Params->PySem.W.Frag}{CX:World->CXT}{sp:World->Sp}{x:Str}
  (hn:l.most=some n) (hn2:n<=sizeLine) (hdf:d.params.defaults=[]) (hr:Room k callerA)
  (hY:∀(w:World) (h:Heap),YP w h->(K w.params).In h)
  (F:∀(w:World) (mg:Z6) (fa:Addr) (h:Heap),(K w.params).In h->h.Ns mainGlobals mg->mg d.name=some (.ref fa) →
   ∃fd:FuncData,(∀(s:Shared) (u:Value),BindsTo s fd ⟨[u],[]⟩ [(x,u)]) ∧
    ∀base:Heap,(K w.params).In base->base.Ns mainGlobals mg->FnOk l.prog w (K w.params) mg base (CX w) k fa fd [x] (sp w))
  (hsp:∀(w:World) (H:Hp) (a:Addr) (ns:List Int),ns.length<=n->zsM H->SqL (K w.params) H a (ns.map V.int)->sp w [.ref a] H (fun v _=>v=.bl true) fun _ _ _=>False)
  (hCX:∀(w:World) (H:Hp) (s:Shared) (e:Value) (s':Shared),CX w [] H s (fun _ _ _=>False) e s'->False) :
  PySem.W.WalkO q loose XP YP l.row.toRowW d [] (fun f vs=>PySem.call f vs):=by
 refine Att.zhf hn hdf fun w s₀ s₁ mg mb fa o pm cd doc a vs ns G Y ho hd hcd hmg hobj hints hlen hg=>?_
 have KX:=hY w _ Y;obtain ⟨fd,hb,hF⟩:=F w mg fa _ KX G.T.g hmg;exact zl9 KX G.T.g G.T.b G.T.builtins G.T.nolimit hg hobj hints (yao hlen hn2) hr hF hb (fun H hO hS=>hsp w H a ns hlen hO hS) fun H e s'=>hCX w H s₁ e s'
end L2
namespace L2
open PySem PySem.Spec PyProof.Rows
noncomputable def zbN(s:Stmt):Arguments:=match s with
 | .FunctionDef _ a _ _ _ _ _ _ _ _=>a
 | _=>{ posonlyargs:=[],args:=[],vararg:=none,kwonlyargs:=[],kw_defaults:=[],kwarg:=none,defaults:=[] }
noncomputable def zbA(s:Stmt):List Stmt:=match s with
 | .FunctionDef _ _ b _ _ _ _ _ _ _=>b
 | _=>[]
noncomputable def zab(s:Stmt):Scope:=match s with
 | .FunctionDef _ _ _ _ _ _ sc _ _ _=>sc
 | _=>{ kind:=.function,names:=[],isGenerator:=false,isCoroutine:=false }
structure Fun(K:PySem.W.Frag)(x qual:Str)(st:Stmt)(f:Addr)(fd:FuncData):Prop where
 ex:∃(oc:Value) (od:Option Addr) (kV doc pm:Value) (an:Option Addr) (cdv ct:Value) (osl:Array (Option Value)),
  fd=PySem.W.fnOf x qual (zbN st) (zbA st) (zab st) .none kV doc pm an cdv ct/\K.lookup f=some ⟨oc,od,.func fd,osl⟩/\PySem.W.codeIn K cdv qual=true
 kp:PySem.W.keepIn K (.ref f)=true
section
variable{P:Program}{w:World}{K:PySem.W.Frag}{mg:Z6}{base:Heap}
def Fun.binds{x qual:Str}{st:Stmt}{f:Addr}{fd:FuncData}{ps:List Str}(F:Fun K x qual st f fd)
  (h:∀(kV doc pm:Value) (an:Option Addr) (cdv ct:Value) (us:List Value),us.length=ps.length->bindArgs (PySem.W.fnOf x qual (zbN st) (zbA st) (zab st) .none kV doc pm an cdv ct) ⟨us,[]⟩=pure (ps.zip us)):zcD K fd ps []:=by
 obtain ⟨oc,od,kV,doc,pm,an,cdv,ct,osl,rfl,lk,hcd⟩:=F.ex;exact .all (h kV doc pm an cdv ct)
def znn{x qual:Str}{st:Stmt}{f:Addr}{oc:Value}{od an:Option Addr}{osl:Array (Option Value)}{kV doc pm cdv ct:Value}(l:K.lookup f=some ⟨oc,od,.func (PySem.W.fnOf x qual (zbN st) (zbA st) (zab st) .none kV doc pm an cdv ct),osl⟩)
  (c:PySem.W.codeIn K cdv qual=true) (k:PySem.W.keepIn K (.ref f)=true):Fun K x qual st f (PySem.W.fnOf x qual (zbN st) (zbA st) (zab st) .none kV doc pm an cdv ct):=⟨⟨oc,od,kV,doc,pm,an,cdv,ct,osl,rfl,l,c⟩,k⟩
end
section
variable{X:Cx}
end
def znj{A B:Prop}(h:B):if false=true then A else B:=by
 rw [if_neg ya1];exact h
def zni{A B:Prop}(h:A):if true=true then A else B:=by
 rw [if_pos rfl];exact h
end L2
namespace L2
open PySem PySem.Spec PyProof.Rows
def ziI{scope:Scope}{env:Env}(h:∀y∈scope.names,y.2=.free->∃c,env.cells.lookup y.1=some c) :
  ∃cl,closureFor scope env=pure cl/\(∀y c,cl.lookup y=some c->env.cells.lookup y=some c)/\∀y,(y,NameKind.free)∈scope.names->∃c,cl.lookup y=some c:=by
 unfold closureFor
 have key:∀(l:List (Str×NameKind)) (cs:List (Str×Addr)),(∀y∈l,y.2=.free->∃c,env.cells.lookup y.1=some c)->(∀y c,cs.lookup y=some c->env.cells.lookup y=some c) →
   ∃cl,(forIn l cs fun (x:Str×NameKind) (r:List (Str×Addr))=>(if (x.2 == NameKind.free)=true then (do let c ← cellOf env x.1;pure (ForInStep.yield ((x.1,c)::r))) else pure (ForInStep.yield r):Sem (ForInStep (List (Str×Addr)))))=pure cl ∧
    (∀y c,cl.lookup y=some c->env.cells.lookup y=some c)/\(∀y,(y,NameKind.free)∈l->∃c,cl.lookup y=some c)/\(∀y c,cs.lookup y=some c->∃c',cl.lookup y=some c'):=by
  intro l
  induction l with
  | nil=>intro cs _ hc;exact ⟨cs,rfl,hc,fun y hy=>by simp at hy,fun y c e=>⟨c,e⟩⟩
  | cons p l ih =>
   intro cs hl hc;obtain ⟨n,k⟩:=p
   by_cases hk:(k == NameKind.free)=true
   ·have ek:k=.free:=eq_of_beq hk;obtain ⟨c,ec⟩:=hl (n,k) yaE ek
    obtain ⟨cl,e1,e2,e3,e4⟩:=ih ((n,c)::cs) (fun y hy=>hl y (yav _ hy)) (fun y c' e=>by
     rw [yaz] at e
     cases hq:y == n with
     | true=>rw [hq] at e;cases e;rw [eq_of_beq hq];exact ec
     | false=>rw [hq] at e;exact hc y c' e)
    refine ⟨cl,?_,e2,fun y hy=>?_,fun y c' e=>?_⟩
    ·rw [ycG];show ((if (k == NameKind.free)=true then _ else _) >>= _)=_;rw [if_pos hk]
     have ecell:cellOf env n=pure c:=by unfold cellOf;rw [ec]
     show (cellOf env n >>= _) >>= _=_;rw [ecell];simpa using e1
    ·rcases yap.mp hy with z | hy
     ·cases z;exact e4 n c (by rw [yaz];simp)
     ·exact e3 y hy
    ·cases hq:y == n with
     | true=>exact e4 y c (by rw [yaz,hq])
     | false=>exact e4 y c' (by rw [yaz,hq];exact e)
   ·obtain ⟨cl,e1,e2,e3,e4⟩:=ih cs (fun y hy=>hl y (yav _ hy)) hc;refine ⟨cl,?_,e2,fun y hy=>?_,e4⟩
    ·rw [ycG];show ((if (k == NameKind.free)=true then _ else _) >>= _)=_;rw [if_neg hk];simpa using e1
    ·rcases yap.mp hy with z | hy
     ·cases z;exact absurd rfl hk
     ·exact e3 y hy
 obtain ⟨cl,e1,e2,e3,_⟩:=key scope.names [] h (fun y c e=>by simp at e);refine ⟨cl,?_,e2,e3⟩;show ((forIn scope.names [] _:Sem (List (Str×Addr))) >>= _)=_;have e1':=congrArg (fun m=>m >>= (pure:List (Str×Addr)->Sem (List (Str×Addr)))) e1;simpa using e1
noncomputable def PIf(X:Cx)(ifs:List Expr)(t:TT):Prop :=
 ∀(pins:Z3) (s:Shared) (σ:St) (H:Hp) (Q:Bool->Hp->Prop),Inv X pins σ H s->t σ H Q →
  wpAny (model X.prog X.w) X.A (forIn ifs true fun c r=>if r=true then do let ok ← isTrue c X.env (eval c X.env);pure (ForInStep.yield ok) else pure (ForInStep.yield r)) (TP X pins σ Q) X.xe s
noncomputable def zxp:TT:=fun _ H Q=>Q true H
def zom{X:Cx}:PIf X [] zxp:=fun _ _ _ H _ I h=>wpAny_tests_nil ⟨H,I,h⟩
def zol{X:Cx}{c:Expr}{t:TT}(h:PT X c t):PIf X [c] t:=fun pins s σ H Q I hw=>wpAny_tests_one (h pins s σ H Q I hw)
theorem zdE{scope:Scope}{env:Env}:∀{names:List (Str×NameKind)} {y:Str},(y,NameKind.free)∈names->(∀z∈names,z.1=y->z.2=.free) →
  (names.map fun (n,k)=>if (k == NameKind.free&&env.scope.kind == .function&&env.kindOf n == some .cell) then (n,NameKind.cell) else (n,k)).lookup y=some .cell ∨
  (names.map fun (n,k)=>if (k == NameKind.free&&env.scope.kind == .function&&env.kindOf n == some .cell) then (n,NameKind.cell) else (n,k)).lookup y=some .free
 | [],_,h,_=>by simp at h
 | (n,k)::r,y,h,u=>by
  rw [yau];show List.lookup y ((if (k == NameKind.free&&env.scope.kind == .function&&env.kindOf n == some .cell)=true then (n,NameKind.cell) else (n,k))::_)=_\/List.lookup y ((if (k == NameKind.free&&env.scope.kind == .function&&env.kindOf n == some .cell)=true then (n,NameKind.cell) else (n,k))::_)=_
  cases hq:y == n with
  | true =>
   have e:n=y:=(eq_of_beq hq).symm;have ek:k=.free:=u (n,k) yaE e
   by_cases hc:(k == NameKind.free&&env.scope.kind == .function&&env.kindOf n == some .cell)=true
   ·rw [if_pos hc];left;simp [yaz,hq]
   ·rw [if_neg hc];right;simp [yaz,hq,ek]
  | false =>
   have hy:(y,NameKind.free)∈r:=by
    rcases yap.mp h with z | z
    ·cases z;simp at hq
    ·exact z
   have ih:=zdE (scope:=scope) (env:=env) hy fun z hz=>u z (yav _ hz)
   by_cases hc:(k == NameKind.free&&env.scope.kind == .function&&env.kindOf n == some .cell)=true
   ·rw [if_pos hc];simpa [yaz,hq] using ih
   ·rw [if_neg hc];simpa [yaz,hq] using ih
def Inv.track{X:Cx}{pins:Z3}{σ:St}{H:Hp}{s:Shared}{D:Addr}{o:HO}(I:Inv X pins σ H s)(hn:H D=none)(h1:X.s₀.heap.objs.size<=D)(h2:D≠X.env.locals)(h3:∀x c,X.env.cells.lookup x=some c->c≠D)(h4:∀p∈X.pn++pins,p.1≠D)
  (new:zba X.prog X.w (upd H D o) s.heap D o):Inv X pins σ (upd H D o) s:=by
 have nD:∀b u,H b=some u->b≠D:=fun b u e=>zam e hn
 obtain ⟨h',g',d',t',o'⟩:=s;refine I.step (h':=h') (g':=g') (d':=d') (t':=t') (ch:=[D]) (fun b hb=>?_) (fun b o _ _ _ e _=>e) (fun b o _ _ _ e _=>⟨o.slots,e⟩) (fun b o hc e n=>?_) (fun b o _ e=>⟨o,e⟩) (fun b xs e=>?_) (fun b o u e=>?_) (fun b ps e=>?_) (fun m hm=>hm) (fun b u e=>?_) I.bare
 ·have e:b=D:=by simpa using hb
  subst e;exact ⟨.inr h1,h2,h3,h4⟩
 ·rw [zag (fun z=>hc (by simp [z]))];exact n
 ·rw [zag (nD _ _ e)];exact e
 ·rw [zag (nD _ _ e)];exact e
 ·exact ⟨#[],by rw [zag (nD _ _ e),e];simp⟩
 ·by_cases hb:b=D
  ·subst hb;rw [zat] at e;cases e;exact new
  ·rw [zag hb] at e
   exact (I.hok b u e).stay (fun _ _ _ q=>q) (fun c q=>by rw [zag (nD _ _ q)];exact q) fun c xs q=>by rw [zag (nD _ _ q)];exact q
section
variable{X:Cx}{elt iter:Expr}{x:Str}{px pos:Pos}{ifs:List Expr}{scope:Scope}{caps:List (Str×Nat)}{wi:TI}{tt:TT}{te:TE}
noncomputable abbrev lob(its:List Value)(k:Nat):Obj:={ cls:=.type "list",data:=.seq its.toArray k }
end
end L2
namespace L2
open PySem PySem.Spec PyProof.Rows
section
variable{X:Cx}{elt iter:Expr}{x:Str}{px pos:Pos}{ifs:List Expr}{scope:Scope}{caps:List (Str×Nat)}{wi:TI}{tt:TT}{te:TE}
end
end L2
namespace L2
open PySem PySem.Spec PyProof.Rows
section
variable{prog:Program}{w:World}{A:Around}{R:Result->Shared->Prop}{s:Shared}
theorem zl4{elt target iter:Expr}{ifs:List Expr}{scope:Scope}{pos:Pos}{it acc:Value}{env:Env}(I:Nat->Shared->Prop)
  (turn:∀n s,I n s->wpAny (model prog w) A (pyNext it) (fun r s₁=>match r with
   | none=>R (.ok .next) s₁
   | some v=>wpAny (model prog w) A (letOwnedTupleGo target it v) (fun _ s₀=>wpAny (model prog w) A (assign target env v) (fun _ s₂ =>
     wpAny (model prog w) A (forIn ifs true fun c r=>if r=true then do let ok ← isTrue c env (eval c env);pure (ForInStep.yield ok) else pure (ForInStep.yield r)) (fun ok s₃ =>
      if ok=true then wpAny (model prog w) A (eval elt env) (fun x s₄ =>
       wpAny (model prog w) A (call (.builtin "list.append") [acc,x]) (fun _ s₅=>∃m,m<n/\I m s₅) (notedBy (model prog w) A env fun e s'=>R (.error e) s') s₄) (notedBy (model prog w) A env fun e s'=>R (.error e) s') s₃
      else ∃m,m<n/\I m s₃) (notedBy (model prog w) A env fun e s'=>R (.error e) s') s₂) (notedBy (model prog w) A env fun e s'=>R (.error e) s') s₀) (notedBy (model prog w) A env fun e s'=>R (.error e) s') s₁) (notedBy (model prog w) A env fun e s'=>R (.error e) s') s)
  (n:Nat) (h:I n s):codeAny (model prog w) A (.compLoop (.ListComp elt [⟨target,iter,ifs,0⟩] scope pos) 0 it acc env) R s:=by
 refine codeAny_loop rfl I (fun n s hI=>?_) n h;show wpAny _ A ((compTurn (.ListComp elt [⟨target,iter,ifs,0⟩] scope pos) 0 it acc env).onRaise (fun x=>do noteFrame x env;theTreesLotGoes x)) _ _ s;refine wpAny_noted ?_;rw [compTurn_list];refine yaa (yc1 (yaa (ybt (turn n s hI) (fun r s₁ h₁=>?_) fun _ _ h'=>h')))
 cases r with
 | none=>exact yad h₁
 | some v =>
  refine yaa (ybt h₁ (fun _ s₀ h₀=>?_) fun _ _ h'=>h');refine yaa (ybt h₀ (fun _ s₂ h₂=>yaa (ybt h₂ (fun ok s₃ h₃=>?_) fun _ _ h'=>h')) fun _ _ h'=>h')
  cases ok with
  | false=>exact yad ⟨rfl,h₃⟩
  | true =>
   exact yaa (yaa (ybt h₃ (fun x s₄ h₄=>yaa (ybt h₄ (fun _ s₅ h₅=>yad (yad ⟨rfl,h₅⟩)) fun _ _ h'=>h')) fun _ _ h'=>h'))
end
theorem zaI:∀(names:List (Str×NameKind)) (n:Nat) (acc:List (Str×Addr)),cellsFrom n names acc=cellsFrom n names []++acc
 | [],_,_=>rfl
 | (x,k)::r,n,acc=>by
  unfold cellsFrom;split
  ·rw [zaI r (n+1) ((x,n)::acc),zaI r (n+1) [(x,n)]];simp
  ·exact zaI r n acc
theorem zb5:∀(names:List (Str×NameKind)) (n:Nat) {x:Str} {c:Addr},(x,c)∈cellsFrom n names []->(x,NameKind.cell)∈names
 | [],_,_,_,h=>by cases h
 | (y,k)::r,n,x,c,h=>by
  unfold cellsFrom at h;split at h
  ·rename_i hk;rw [zaI] at h
   rcases ybj.mp h with h | h
   ·exact yav _ (zb5 r _ h)
   ·rw [yaU] at h;cases h;rw [ycm.mp hk];exact yaE
  ·exact yav _ (zb5 r _ h)
theorem zbm{α:Type}{x:Str}:∀{l m:List (Str×α)},(l++m).lookup x=(l.lookup x).or (m.lookup x)
 | [],m=>rfl
 | (y,a)::l,m=>by
  rw [List.cons_append,yaz,yaz]
  cases x == y with
  | true=>rfl
  | false=>exact zbm
theorem zbk:∀(names:List (Str×NameKind)) (n:Nat) {x:Str},(x,NameKind.cell)∈names->∃c,(cellsFrom n names []).lookup x=some c
 | [],_,_,h=>by cases h
 | (y,k)::r,n,x,h=>by
  unfold cellsFrom;split
  ·rename_i hk;rw [zaI,zbm]
   rcases yap.mp h with e | h
   ·cases e
    cases hq:(cellsFrom (n+1) r []).lookup y with
    | some c=>exact ⟨c,rfl⟩
    | none=>exact ⟨n,by simp [yaz]⟩
   ·obtain ⟨c,e⟩:=zbk r (n+1) h;rw [e];exact ⟨c,rfl⟩
  ·rename_i hk
   rcases yap.mp h with e | h
   ·cases e;exact absurd rfl hk
   ·exact zbk r n h
def zbH{M:Model}{A:Around}{E:Z5}{s:Shared}{scope:Scope}{globals:Addr}{closure:List (Str×Addr)}{qual:Str}{func:Option Addr}{code:Value}{outer:Env}{builtins:Addr}{Q:Env->Shared->Prop}
  (hQ:∀h',h'.Ns s.heap.objs.size (fun _=>none)->(∀b o,s.heap.get? b=some o->h'.get? b=some o)->CellsOk h' (s.heap.objs.size+1) (cellsFrom (s.heap.objs.size+1) scope.names []) →
   Q (newEnv scope s.heap.objs.size globals (cellsFrom (s.heap.objs.size+1) scope.names []++closure) qual func code (some outer) builtins) { s with heap:=h' }) :
  wpAny M A (newFunctionEnv scope globals closure [] qual func code (some outer) builtins) Q E s:=by
 simp only [newFunctionEnv,Option.isSome_some,ybP];refine yaa (wpAny_alloc ?_);refine yaa (wpAny_layCells _ (fun name kind cells=>by cases hkc:kind == NameKind.cell<;>simp [hkc]) _ _ _ _ ?_);have ok:=cellsFrom_ok scope.names (s.heap.push { cls:=.type "dict",data:=.dict #[] }) (s.heap.objs.size+1) [] ⟨fun _ _ hm=>(nomatch hm),List.Pairwise.nil⟩ (by rw [ya4];exact yal _);rw [ya4] at ok;rw [show ({ s with heap:=s.heap.push { cls:=.type "dict",data:=.dict #[] } }:Shared).heap.objs.size=s.heap.objs.size+1 from ya4 ..];rw [zaI];simp only [List.forIn_nil];refine yaa (yad (yad ?_));exact hQ _ ((Heap.Ns.new s.heap (.type "dict")).keeps (pushCells_keeps _ _)) (fun b o e=>pushCells_keeps _ _ b o (yae _ e)) ok
structure CompScopeG(sc scope:Scope)(N:List Str)(xs:List Str)(caps:List (Str×Nat)):Prop where
 nd:(scope.names.map (·.1)).Nodup
 kind:scope.kind=.function
 names:∀y∈scope.names,y.2=.local->scope.names.lookup y.1=some .local
 free:∀y∈scope.names,y.2=.free->sc.names.lookup y.1=some .cell\/sc.names.lookup y.1=some .free
 cap:∀p∈caps,N[p.2]?=some p.1/\(p.1,NameKind.free)∈scope.names/\sc.names.lookup p.1≠some .local
 uniq:∀p∈caps,∀z∈scope.names,z.1=p.1->z.2=.free
noncomputable def zaL(X:Cx)(xs:List Str)(caps:List (Str×Nat))(scope:Scope)(cl:List (Str×Addr))(C:Addr)(s:Shared)(H:Hp)(ex:List Addr):Cx :=
 { X with N:=xs++caps.map (·.1),s₀:=s,H₀:=H,env:=compEnvC scope cl C X.env,outer:=X.stack,ex:=ex,fn:=fun x=>decide (scope.names.lookup x=some .cell),pn:=[],xe:=fun _ _=>False }
noncomputable abbrev capσ(σ:St)(n:Nat)(caps:List (Str×Nat)):St:=List.replicate n none++caps.map fun p=>(σ[p.2]?).join
noncomputable def zhu(wi:TI)(g:TG)(tt:TT)(te:TE)(n:Nat)(caps:List (Str×Nat)):TE:=fun σ H Q=>wi σ H fun J H1=>∃W:Nat->Nat->List V->St->Hp->Prop,(∃m,W 0 m [] (capσ σ n caps) H1)/\∀i m ys σ' H,W i m ys σ' H →
 ys.length<=sizeLine/\((J.stop i H/\∀p,H p=none->Q (.ref p) (upd H p (.lst ys))) ∨
 (J.go i H/\∀x H',J.yld i H x H'->g x σ' H' fun σ2 H2=>tt σ2 H2 fun ok H3=>if ok=true then te σ2 H3 fun y H4=>∃m',m'<m/\W (i+1) m' (ys++[y]) σ2 H4 else ∃m',m'<m/\W (i+1) m' ys σ2 H3))
section
variable{X:Cx}{elt iter tg:Expr}{xs:List Str}{pos:Pos}{ifs:List Expr}{scope:Scope}{caps:List (Str×Nat)}{wi:TI}{g:TG}{tt:TT}{te:TE}
structure OwnC(X:Cx)(scope:Scope)(lo:Nat)(h:Heap)(cl:List (Str×Addr)):Prop where
 sort:∀y c,cl.lookup y=some c->X.env.cells.lookup y=some c\/(h.IsCell c none/\lo<=c)
 inj:∀y z c,cl.lookup y=some c->cl.lookup z=some c->y=z
 has:∀y,((y,NameKind.free)∈scope.names\/(y,NameKind.cell)∈scope.names)->∃c,cl.lookup y=some c
 own:∀y c,scope.names.lookup y=some .cell->cl.lookup y=some c->lo<=c
 free:∀y,(y,NameKind.free)∈scope.names->∃c,cl.lookup y=some c/\X.env.cells.lookup y=some c
def zf0{scope:Scope}{env:Env}{y:Str}(h:(relabel scope env).names.lookup y=some .cell\/(relabel scope env).names.lookup y=some .free):(y,NameKind.free)∈scope.names\/(y,NameKind.cell)∈scope.names:=by
 have go:∀k,(relabel scope env).names.lookup y=some k->(k=.cell\/k=.free)->(y,NameKind.free)∈scope.names\/(y,NameKind.cell)∈scope.names:=fun k e hk=>by
  have hm:=yaF e;obtain ⟨⟨n,k0⟩,hp,e2⟩:=yaq.mp hm
  by_cases hq:(k0 == .free&&env.scope.kind == .function&&env.kindOf n == some .cell)=true
  ·have e3:(n,NameKind.cell)=(y,k):=by rw [<-e2];show _=if _ then _ else _;rw [if_pos hq]
   cases e3
   have:k0=.free:=by simp only [yab] at hq;exact eq_of_beq hq.1.1
   subst this;exact .inl hp
  ·have e3:(n,k0)=(y,k):=by rw [<-e2];show _=if _ then _ else _;rw [if_neg hq]
   cases e3
   rcases hk with rfl | rfl
   ·exact .inr hp
   ·exact .inl hp
 rcases h with h | h
 ·exact go _ h (.inl rfl)
 ·exact go _ h (.inr rfl)
theorem zf9:∀{l:List (Str×NameKind)},(l.map (·.1)).Nodup->∀{x:Str} {a b:NameKind},(x,a)∈l->(x,b)∈l->a=b
 | [],_,_,_,_,h,_=>by cases h
 | p::l,nd,x,a,b,h,h'=>by
  rw [yau,ybk] at nd
  rcases yap.mp h with h | h<;>rcases yap.mp h' with h' | h'
  ·rw [<-h'] at h;exact (Prod.mk.inj h).2
  ·exact absurd (yaq.mpr ⟨_,h',by rw [<-h]⟩) nd.1
  ·exact absurd (yaq.mpr ⟨_,h,by rw [<-h']⟩) nd.1
  ·exact zf9 nd.2 h h'
def zjO{X:Cx}{scope:Scope}{lo n:Nat}{h:Heap}{cl:List (Str×Addr)}(nd:(scope.names.map (·.1)).Nodup)(hn:lo<=n)(hinj:∀x y c,X.env.cells.lookup x=some c->X.env.cells.lookup y=some c->x=y)
  (hcl:∀y c,cl.lookup y=some c->X.env.cells.lookup y=some c) (hlo:∀y c,X.env.cells.lookup y=some c->c<lo) (hhas:∀y,(y,NameKind.free)∈scope.names->∃c,cl.lookup y=some c) (ok:CellsOk h n (cellsFrom n scope.names [])) :
  OwnC X scope lo h (cellsFrom n scope.names []++cl):=by
 have sort:∀y c,(cellsFrom n scope.names []++cl).lookup y=some c->((cellsFrom n scope.names []).lookup y=some c)\/((cellsFrom n scope.names []).lookup y=none/\cl.lookup y=some c):=fun y c e=>by
  rw [zbm] at e
  cases hq:(cellsFrom n scope.names []).lookup y with
  | some c'=>rw [hq] at e;exact .inl e
  | none=>rw [hq] at e;exact .inr ⟨rfl,e⟩
 refine ⟨fun y c e=>?_,fun y z c e e'=>?_,fun y hy=>?_,fun y c hy e=>?_,fun y hy=>?_⟩
 ·rcases sort y c e with z | ⟨_,z⟩
  ·have:=ok.empty y c (yaF z);exact .inr ⟨this.1,yao hn this.2⟩
  ·exact .inl (hcl y c z)
 ·rcases sort y c e with a | ⟨_,a⟩<;>rcases sort z c e' with b | ⟨_,b⟩
  ·exact name_of_addr ok.apart (yaF a) (yaF b)
  ·have h1:=(ok.empty y c (yaF a)).2;have h2:=hlo z c (hcl z c b);exact absurd (yak h2 (yao hn h1)) (yaY _)
  ·have h1:=(ok.empty z c (yaF b)).2;have h2:=hlo y c (hcl y c a);exact absurd (yak h2 (yao hn h1)) (yaY _)
  ·exact hinj y z c (hcl y c a) (hcl z c b)
 ·rw [zbm]
  cases hq:(cellsFrom n scope.names []).lookup y with
  | some c=>exact ⟨c,rfl⟩
  | none =>
   rcases hy with hy | hy
   ·exact hhas y hy
   ·obtain ⟨c,e⟩:=zbk scope.names n hy;rw [hq] at e;cases e
 ·obtain ⟨c',e'⟩:=zbk scope.names n (yaF hy);rw [zbm,e'] at e;have:c'=c:=Option.some.inj e;subst this;exact yao hn (ok.empty y c' (yaF e')).2
 ·obtain ⟨c,e⟩:=hhas y hy;refine ⟨c,?_,hcl y c e⟩;rw [zbm]
  cases hq:(cellsFrom n scope.names []).lookup y with
  | some c' =>
   have:=zb5 scope.names n (yaF hq);cases zf9 nd hy this
  | none=>exact e
def zkL{pins:Z3}{σ:St}{H:Hp}{s s':Shared}{cl:List (Str×Addr)}{C:Addr}{fp:List Addr}(S:CompScopeG X.env.scope scope X.N xs caps)(hu:∀p∈caps,∀z∈scope.names,z.1=p.1->z.2=.free)
  (I:Inv X pins σ H s) (hcl:OwnC X scope s.heap.objs.size s'.heap cl)
  (hf:∀b∈fp,zk4 X pins H b) (hlt:∀b∈fp,b<s.heap.objs.size) (hC:s.heap.objs.size<=C) (ho:s'.os=s.os) (hg:s'.gens=s.gens) (hk:∀b o,s.heap.get? b=some o->s'.heap.get? b=some o) (hn:s'.heap.Ns C (fun _=>none)) :
  Inv (zaL X xs caps scope cl C s H fp) [] (capσ σ xs.length caps) H s':=by
 have cellK:∀y c,cl.lookup y=some c->∃v,s'.heap.IsCell c v:=fun y c e=>by
  rcases hcl.sort y c e with z | z
  ·obtain ⟨v,o,q,d⟩:=I.cell y c z;exact ⟨v,o,hk _ _ q,d⟩
  ·exact ⟨none,z.1⟩
 refine ⟨⟨I.ok.mod,S.kind,I.ok.glob,I.ok.blt,hC,hcl.inj,fun y hy=>hcl.has y (zf0 hy),fun y c z e=>hcl.own y c (yah z) e,I.ok.hd,I.ok.frames,.inl rfl,fun b hb=>⟨yar (yak (hlt b hb) hC),fun y c e=>(hcl.sort y c e).elim (fun z=>(hf b hb).2.2.2.2.1 y c z) fun z=>yaX (yak (hlt b hb) z.2)⟩,
  I.bs,yao I.ok.bsz I.sz,fun b o e hb=>?_,fun b hb hm=>?_,I.stack,I.stkFree⟩,ho,by rw [hg];exact I.bare,Un.kept hk,⟨_,hn,fun i y v h1 h2 h3=>?_⟩,fun y c e=>cellK y c e,I.hok.fresh hC,fun y c e=>(hcl.sort y c e).elim (I.freeC y c) fun z=>I.hok.fresh z.2,fun p hp=>absurd (show p∈([]:Z3) from hp) (by simp),I.hok.kept hk,?_⟩
 ·rcases (hf b hb).2.2.2.1 with z | z
  ·exact I.ok.noex b o e z
  ·exact absurd (yak (yai e) (yao I.ok.bsz z)) (yaY _)
 ·rcases yap.mp (I.stkSub b hm) with z | z
  ·exact (hf b hb).2.1 z
  ·exact (hf b hb).2.2.1 z
 ·have hi:¬ i<xs.length:=fun hi=>by
   have h2':(capσ σ xs.length caps)[i]?=some (some v):=h2;rw [yaL (by rw [yaS];exact hi),ybE] at h2'
   split at h2'<;>cases h2'
  ·have h1':(caps.map (·.1))[i-xs.length]?=some y:=by
    have h1':(xs++caps.map (·.1))[i]?=some y:=h1;rwa [yax (by omega)] at h1'
   rw [yas] at h1'
   have h2':(caps.map fun p=>(σ[p.2]?).join)[i-xs.length]?=some (some v):=by
    have h2':(capσ σ xs.length caps)[i]?=some (some v):=h2;rw [yax (by rw [yaS];omega),yaS] at h2';exact h2'
   rw [yas] at h2'
   cases hp:caps[i-xs.length]? with
   | none=>rw [hp] at h1';cases h1'
   | some p =>
    rw [hp] at h1' h2';have ey:p.1=y:=Option.some.inj h1';have ev:(σ[p.2]?).join=some v:=Option.some.inj h2';subst ey;have hmem:p∈caps:=yaZ hp;obtain ⟨c1,c2,c3⟩:=S.cap p hmem
    have eσ:σ[p.2]?=some (some v):=by
     cases q:σ[p.2]? with
     | none=>rw [q] at ev;cases ev
     | some w=>rw [q] at ev;have:w=some v:=ev;rw [this]
    have hfr:=S.free _ c2 rfl;have hv:Vis X.env.scope p.1:=hfr.elim (fun z=>.inr (.inl z)) (fun z=>.inr (.inr z));obtain ⟨m,_,hl⟩:=I.loc;obtain ⟨u,r,l⟩:=hl p.2 p.1 v c1 eσ hv;refine ⟨u,r,.inr ⟨zdE (scope:=scope) (env:=X.env) c2 (hu p hmem),?_⟩⟩;obtain ⟨c,ec,ec2⟩:=hcl.free p.1 c2;refine ⟨c,ec,?_⟩
    rcases l with ⟨z,_⟩ | ⟨_,c',ec',hcell⟩
    ·exact absurd z c3
    ·have:c'=c:=by rw [ec2] at ec';exact (Option.some.inj ec').symm
     subst this;obtain ⟨o,q,d⟩:=hcell;exact ⟨o,hk _ _ q,d⟩
 ·simp [zaL,capσ]
def zgr{use:Option (Value->Sem Unit)}{Qf:Z5}{R:VK}{pins:Z3}{s:Shared}{σ:St}{H:Hp}(hc:X.calm=true)(S:CompScopeG X.env.scope scope X.N xs caps)(hi:PI X tg iter wi)(hg:∀cl C s H fp,PG (zaL X xs caps scope cl C s H fp) tg g)
  (ht:∀cl C s H fp,PIf (zaL X xs caps scope cl C s H fp) ifs tt) (he:∀cl C s H fp,PE (zaL X xs caps scope cl C s H fp) elt te)
  (hs:∀v,foldedSetIterable iter X.env v=pure v) (I:Inv X pins σ H s) (h:zhu wi g tt te xs.length caps σ H R)
  (fin:∀(D C:Addr) (s4:Shared) (m4:Z6) (H6:Hp) (r:Flow),s4.heap.Ns C m4->(∀{σ':St} {H7:Hp} {s5:Shared} {h':Heap},Inv X pins σ' H7 s5->Heap.SameBut C s5.heap h'->H7 C=none->Inv X pins σ' H7 { s5 with heap:=h' })->H6 C=none->C≠X.env.locals->(∀y c,X.env.cells.lookup y=some c->C≠c)->Inv X pins σ H6 s4->R (.ref D) H6->compPost (model X.prog X.w) X.A X.xe use Qf (.ref D) C (.ok r) s4) :
  wpAny (model X.prog X.w) X.A (comprehension (.ListComp elt [⟨tg,iter,ifs,0⟩] scope pos) scope X.env (firstIterPos [⟨tg,iter,ifs,0⟩] pos) (newList []) false (eval iter X.env) use) Qf X.xe s:=by
 obtain ⟨cl,hclos,hcl,hhas⟩:=ziI (scope:=scope) (env:=X.env) fun y hy hf=>I.ok.has y.1 (S.free y hy hf)
 refine wpAny_comprehension_free (use:=use) rfl hs hclos S.kind S.names (thn (hi pins s σ H _ I h) fun v s1 h1=>thn h1 fun itv s2 h2=>?_);obtain ⟨it,fp,tn,J,H2,rfl,I2,T,st2,f2,W,⟨m0,w0⟩,turn⟩:=h2;refine yaR (zbH (fun h₁ hns₁ hsb₁ hok₁=>?_));dsimp only at hns₁ hsb₁ hok₁ ⊢;generalize hHp:s2.heap.push { cls:=.type "list",dict:=none,data:=.seq ([]:List Value).toArray }=Hq at hns₁ hsb₁ hok₁ ⊢
 have hCe:Hq.objs.size=s2.heap.objs.size+1:=by rw [<-hHp,ya4]
 have hDC:s2.heap.objs.size≠Hq.objs.size:=by rw [hCe];exact yar (yb1 _)
 have hC:s2.heap.objs.size<=Hq.objs.size:=by rw [hCe];exact yco _
 have old:∀b o,s2.heap.get? b=some o->h₁.get? b=some o:=fun b o e=>hsb₁ b o (hHp ▸ yae _ e)
 have hacc:h₁.get? s2.heap.objs.size=some (lob [] 0):=hsb₁ _ _ (hHp ▸ yam _ rfl)
 have cellX:∀y c,X.env.cells.lookup y=some c->c<s2.heap.objs.size:=fun y c e=>by obtain ⟨v,q⟩:=I2.cell y c e;exact q.lt
 have oc:=zjO (X:=X) (lo:=s2.heap.objs.size+1) S.nd (by rw [hCe];exact yco _) I.ok.inj hcl (fun y c e=>ybC (cellX y c e)) hhas hok₁;generalize hcl2:cellsFrom (Hq.objs.size+1) scope.names []++cl=cl2 at oc ⊢;have oc':OwnC X scope s2.heap.objs.size h₁ cl2:=⟨fun y c e=>(oc.sort y c e).imp id fun z=>⟨z.1,ycW z.2⟩,oc.inj,oc.has,fun y c a e=>ycW (oc.own y c a e),oc.free⟩
 have hlt:∀b∈fp,b<s2.heap.objs.size:=fun b hb=>by obtain ⟨o,e,_⟩:=T.obj 0 _ st2 b hb;exact yai e
 generalize hY:zaL X xs caps scope cl2 Hq.objs.size s2 H2 fp=Y;have PEY:PE Y elt te:=hY ▸ he cl2 _ s2 H2 fp;have PIY:PIf Y ifs tt:=hY ▸ ht cl2 _ s2 H2 fp;have PGY:PG Y tg g:=hY ▸ hg cl2 _ s2 H2 fp
 have I3:Inv Y [] (capσ σ xs.length caps) H2 { s2 with heap:=h₁ }:=by
  rw [<-hY];exact zkL S S.uniq I2 oc' f2 hlt hC rfl rfl old hns₁
 have eYenv:Y.env=compEnvC scope cl2 Hq.objs.size X.env:=by rw [<-hY];rfl
 have eYloc:Y.env.locals=Hq.objs.size:=by rw [eYenv];rfl
 have eYfs:Y.fs=frs X.stack:=by rw [<-hY];rfl
 have eYprog:Y.prog=X.prog:=by rw [<-hY];rfl
 have eYw:Y.w=X.w:=by rw [<-hY];rfl
 have eYK:Y.K=X.K:=by rw [<-hY];rfl
 have eYA:Y.A=X.A:=by rw [<-hY];rfl
 have eYc:Y.calm=true:=by rw [<-hY];exact hc
 have eYex:Y.ex=fp:=by rw [<-hY];rfl
 have eYs:Y.s₀=s2:=by rw [<-hY];rfl
 have eYH:Y.H₀=H2:=by rw [<-hY];rfl
 have eYpn:Y.pn=[]:=by rw [<-hY];rfl
 have eYcell:∀y c,Y.env.cells.lookup y=some c->X.env.cells.lookup y=some c\/s2.heap.objs.size+1<=c:=fun y c e=>(oc.sort y c (by rwa [eYenv] at e)).imp id (·.2)
 have eYxe:∀e s',¬ Y.xe e s':=fun e s' z=>by rwa [<-hY] at z
 have stkX:∀b∈frs X.stack,b<s2.heap.objs.size:=fun b hb=>by
  rcases yap.mp (I2.stkSub b hb) with z | z
  ·rw [z];exact I2.lt
  ·refine Nat.not_le.mp fun hle=>I2.nofs hle z
 have pinX:∀p∈X.pn++pins,p.1<s2.heap.objs.size:=fun p hp=>yai (I2.pin p hp).1
 have fpY:∀{H':Hp} {its:List Value} {k:Nat},(∀b∈fp,H' b=none)->∀b∈fp,zk4 Y [(s2.heap.objs.size,lob its k)] H' b:=fun {H' its k} hn b hb=>by
  refine ⟨hn b hb,by rw [eYloc];exact yar (yak (hlt b hb) hC),?_,.inl (by rw [eYex];exact hb),fun y c e=>(eYcell y c e).elim (fun z=>(f2 b hb).2.2.2.2.1 y c z) fun z=>yaX (yak (hlt b hb) (ycW z)),fun p hp=>?_⟩
  ·rw [eYfs];intro hm
   rcases yap.mp (I2.stkSub b hm) with z | z
   ·exact (f2 b hb).2.1 z
   ·exact (f2 b hb).2.2.1 z
  ·rw [eYpn] at hp
   have e:p=(s2.heap.objs.size,lob its k):=by simpa using hp
   rw [e];exact yaX (hlt b hb)
 have pinD:∀{H':Hp} {σ':St} {s':Shared} {its:List Value} {k:Nat},Inv Y [] σ' H' s'->s'.heap.get? s2.heap.objs.size=some (lob its k)->H' s2.heap.objs.size=none->Inv Y [(s2.heap.objs.size,lob its k)] σ' H' s':=fun {H' σ' s' its k} I' e n =>
  I'.pins_of fun p hp=>by
   have ep:p=(s2.heap.objs.size,lob its k):=by simpa using hp
   subst ep;refine ⟨e,n,by rw [eYloc];exact hDC,?_,fun v z=>?_⟩
   ·rw [eYfs];exact fun hm=>yaY _ (stkX _ hm)
   ·have z':Data.seq its.toArray k=Data.cell v:=z;cases z'
 have loop:codeAny (model X.prog X.w) X.A (.compLoop (.ListComp elt [⟨tg,iter,ifs,0⟩] scope pos) 0 (.ref it) (.ref s2.heap.objs.size) (compEnvC scope cl2 Hq.objs.size X.env))
   (compPost (model X.prog X.w) X.A X.xe use Qf (.ref s2.heap.objs.size) Hq.objs.size) { s2 with heap:=h₁ }:=by
  refine zl4 (fun n s'=>∃i σx H' ys its k,Inv Y [(s2.heap.objs.size,lob its k)] σx H' s'/\tn i s'.heap/\(∀b∈fp,H' b=none)/\Vals ys its/\W i n ys σx H') ?_ m0
   ⟨0,capσ σ xs.length caps,H2,[],[],0,pinD I3 hacc (I2.hok.fresh (yal _)),T.keep _ _ _ st2 fun b hb o e=>old b o e,fun b hb=>(f2 b hb).1,.nil,w0⟩
  rintro n s3 ⟨i,σx,H3,ys,its,k,J3,st3,fr3,rv,w3⟩;obtain ⟨hz,hcase⟩:=turn i n ys σx H3 w3
  rcases hcase with ⟨stop,q⟩ | ⟨go,step⟩
  ·have hd:=T.done Y eYprog eYw eYK eYc i _ s3 _ H3 (notedBy (model X.prog X.w) X.A (compEnvC scope cl2 Hq.objs.size X.env) fun e s'=>compPost (model X.prog X.w) X.A X.xe use Qf (.ref s2.heap.objs.size) Hq.objs.size (.error e) s') J3 (fpY fr3) st3 stop;rw [eYA] at hd;refine thn hd fun r s4 ⟨hr,J4⟩=>?_
   subst hr;obtain ⟨m4,hn4,_⟩:=J4.loc
   have hn4':s4.heap.Ns Hq.objs.size m4:=by rw [<-eYloc];exact hn4
   have hnC:H3 Hq.objs.size=none:=by rw [<-eYloc];exact J4.free
   have hk5:HOk X.prog X.w H3 s4.heap:=by rw [<-eYprog,<-eYw];exact J4.hok
   have u5:Un (frs X.stack) fp H2 H3 s2.heap s4.heap:=by
    have ub:=J4.base;rwa [eYfs,eYex,eYH,eYs] at ub
   have J5:Inv X pins σ H3 s4:=I2.call' (s':=s4) (ch:=fp) (by have:=J4.os;rwa [eYs] at this) u5 hk5 J4.bare fun b hb=>⟨(f2 b hb).2.2.2.1,(f2 b hb).2.1,(f2 b hb).2.2.2.2.1,(f2 b hb).2.2.2.2.2⟩
   have hp4:=J4.pin (s2.heap.objs.size,lob its k) (yaC _ yaE);have hD5:s4.heap.get? s2.heap.objs.size=some (lob its k):=hp4.1;have J6:Inv X pins σ (upd H3 s2.heap.objs.size (.lst ys)) s4:=J5.track hp4.2.1 I2.sz (yaX I2.lt) (fun y c e=>yar (cellX y c e)) (fun p hp=>yar (pinX p hp)) (show zba X.prog X.w _ s4.heap _ (.lst ys) from ⟨hz,its,k,rv,hD5⟩);have hCloc:Hq.objs.size≠X.env.locals:=yaX (yak I2.lt hC);exact fin _ Hq.objs.size s4 m4 _ _ hn4' (fun {σ'} {H7} {s5} {h'} J sb' hn=>J.turned (t':=s5.toks) (it:=Hq.objs.size) (fun b o hb e=>(sb'.2 b hb).trans e) hn hCloc (.inr (yao I2.sz hC)) (fun y c e=>yar (yak (cellX y c e) hC)) (fun p hp=>yar (yak (pinX p hp) hC))) (by rw [zag (Ne.symm hDC)];exact hnC) hCloc (fun y c e=>yaX (yak (cellX y c e) hC)) J6 (q _ hp4.2.1)
  ·have hd:=T.item Y eYprog eYw eYK eYc i _ s3 _ H3 (notedBy (model X.prog X.w) X.A (compEnvC scope cl2 Hq.objs.size X.env) fun e s'=>compPost (model X.prog X.w) X.A X.xe use Qf (.ref s2.heap.objs.size) Hq.objs.size (.error e) s') J3 (fpY fr3) st3 go;rw [eYA] at hd;refine thn hd fun r s4 ⟨u,hr,h4⟩=>?_
   subst hr;refine thn h4 fun _ s5 ⟨v4,H4,J4,r4,y4,st5,fr4⟩=>?_
   have J4':=J4.pinned (fp:=fp) (fpY fr4) (T.obj _ _ st5);have ha:=PGY _ s5 σx H4 v4 u _ J4' r4 (step v4 H4 y4);rw [eYprog,eYw,eYA,eYenv] at ha;refine ybt ha (fun _ s5' ⟨σ5,H5,J5',q5⟩=>?_) fun e s' z=>(eYxe _ _ z).elim
   have ht5:=PIY _ s5' σ5 H5 _ J5' q5;rw [eYprog,eYw,eYA,eYenv] at ht5;refine ybt ht5 (fun ok s6 ⟨H6,J6,q6⟩=>?_) fun e s' z=>(eYxe _ _ z).elim
   have back:∀{H7:Hp} {s7:Shared},Inv Y ([(s2.heap.objs.size,lob its k)]++zf5 fp s5.heap) σ5 H7 s7->tn (i+1) s7.heap/\∀b∈fp,H7 b=none:=fun {H7 s7} J7 =>
    ⟨T.keep _ _ _ st5 fun b hb o e=>(J7.pin (b,o) (yaC _ (yaC _ (zcv hb e)))).1,fun b hb=>by
     obtain ⟨o,e,d⟩:=T.obj _ _ st5 b hb
     exact (J7.pin (b,o) (yaC _ (yaC _ (zcv hb e)))).2.1⟩
   cases ok with
   | false =>
    rw [if_neg ya1] at q6;rw [if_neg ya1];obtain ⟨m',hm',w6⟩:=q6;exact ⟨m',hm',i+1,σ5,H6,ys,its,k,J6.unpinned,(back J6).1,(back J6).2,rv,w6⟩
   | true =>
    rw [if_pos rfl] at q6;rw [if_pos rfl];have he6:=PEY _ s6 _ H6 _ J6 q6;rw [eYprog,eYw,eYA,eYenv] at he6;refine ybt he6 (fun u7 s7 ⟨v7,H7,J7,r7,m',hm',w7⟩=>?_) fun e s' z=>(eYxe _ _ z).elim
    obtain ⟨st7,fr7⟩:=back J7;have hp7:=(J7.unpinned).pin (s2.heap.objs.size,lob its k) (yaC _ yaE);have hl:=rv.length;refine append_at (hsz:=by show its.toArray.size<=sizeLine;rw [yag];omega) hp7.1 fun h8 sb8 hD8=>?_
    have J7':Inv Y [] σ5 H7 s7:=J7.unpinned.pins_of fun p hp=>absurd hp (by simp)
    have J8:Inv Y [] σ5 H7 { s7 with heap:=h8 }:=J7'.turned (t':=s7.toks) (it:=s2.heap.objs.size) (fun b o hb e=>(sb8.2 b hb).trans e) hp7.2.1 (by rw [eYloc];exact hDC) (.inr (by rw [eYs];exact yal _)) (fun y c e=>(eYcell y c e).elim (fun z=>yar (cellX y c z)) fun z=>yaX z) (fun p hp=>by rw [eYpn] at hp;simp at hp)
    have hD8':h8.get? s2.heap.objs.size=some (lob (its++[u7]) (k+1)):=by rw [hD8];simp [lob]
    exact ⟨m',hm',i+1,σ5,H7,ys++[v7],its++[u7],k+1,pinD J8 hD8' hp7.2.1,T.keep _ _ _ st7 fun b hb o e=>(sb8.2 b (yar (hlt b hb))).trans e,fr7,rv.append (.cons r7 .nil),w7⟩
 exact codeAny_compStart_list loop (T.self X.A 0 _ _ _ (T.keep _ _ _ st2 fun b hb o e=>old b o e) loop)
def zlI(hc:X.calm=true)(S:CompScopeG X.env.scope scope X.N xs caps)(hi:PI X tg iter wi)(hg:∀cl C s H fp,PG (zaL X xs caps scope cl C s H fp) tg g)
  (ht:∀cl C s H fp,PIf (zaL X xs caps scope cl C s H fp) ifs tt) (he:∀cl C s H fp,PE (zaL X xs caps scope cl C s H fp) elt te)
  (hs:∀v,foldedSetIterable iter X.env v=pure v:=by intro _;rfl):PE X (.ListComp elt [⟨tg,iter,ifs,0⟩] scope pos) (zhu wi g tt te xs.length caps):=by
 intro pins s σ H Q I h;rw [eval_ListComp];exact zgr (use:=none) hc S hi hg ht he hs I h fun D C s4 m4 H6 r hn tr hC _ _ J6 q=>⟨m4,hn,fun h5 sb=>⟨.ref D,H6,tr J6 sb hC,rfl,q⟩⟩
def zlv{k0:Nat}{y0:Str}{py spos:Pos}(hc:X.calm=true)(S:CompScopeG X.env.scope scope X.N xs caps)(hN0:X.N.Nodup)(hi0:X.N[k0]?=some y0)(hx0:Loc X.env.scope y0)(hi:PI X tg iter wi)(hg:∀cl C s H fp,PG (zaL X xs caps scope cl C s H fp) tg g)
  (ht:∀cl C s H fp,PIf (zaL X xs caps scope cl C s H fp) ifs tt) (he:∀cl C s H fp,PE (zaL X xs caps scope cl C s H fp) elt te)
  (hsw:swapsWith (.ListComp elt [⟨tg,iter,ifs,0⟩] scope pos) (some (.Name y0 py)) spos.line X.env=pure true)
  (hf0:X.fn y0=true\/X.env.scope.names.lookup y0=some .local)
  (hs:∀v,foldedSetIterable iter X.env v=pure v):PS X (.Assign [.Name y0 py] (.ListComp elt [⟨tg,iter,ifs,0⟩] scope pos) spos) (zpw (zhu wi g tt te xs.length caps) (zkr k0)):=by
 intro pins s σ H DD I h;rw [exec_Assign_Name_used _ _ _ _ hsw];refine yaa (yc1 (yaa ?_));show wpAny _ X.A (do let _ ← comprehension (.ListComp elt [⟨tg,iter,ifs,0⟩] scope pos) scope X.env _ (newList []) false (eval iter X.env) (some (assign (.Name y0 py) X.env))) _ _ s;refine yaa (ybt (zgr (use:=some (assign (.Name y0 py) X.env)) (Qf:=fun _ s'=>SP X pins DD .next s') hc S hi hg ht he hs I h fun D C s4 m4 H6 r hn tr hC hl hce J6 q=>?_) (fun _ s' hq=>yad (yad hq)) fun _ _ e=>e);show wpAny _ X.A (assign (.Name y0 py) X.env (.ref D)) _ X.xe s4;refine wpAny_assign_Name (zfQ (i:=k0) J6 hN0 hi0 hx0 (v:=.ref D) rfl (fun s5 J7 ⟨a,sb,ha⟩=>?_) hf0);have haC:C≠a:=ha.elim (fun z=>by rw [z];exact hl) fun z=>hce _ _ z
 exact ⟨m4,hn.sameBut sb haC,fun h' sb'=>⟨_,_,tr J7 sb' hC,q⟩⟩
end
end L2
namespace ST
open PySem PySem.SetTable
noncomputable def stp(mask:Nat)(p:Probe):Probe :=
 if p.more > 0 then { p with j:=p.j+1,more:=p.more-1 } else
 { p with j:=(leap mask p.i p.perturb).1,more:=runEnd mask (leap mask p.i p.perturb).1-(leap mask p.i p.perturb).1,i:=(leap mask p.i p.perturb).1,perturb:=(leap mask p.i p.perturb).2 }
noncomputable def itr(mask:Nat):Nat->Probe->Probe
 | 0,p=>p
 | n+1,p=>itr mask n (stp mask p)
noncomputable def zuv(mask i pert:Nat):Probe:={ j:=i,more:=runEnd mask i-i,i:=i,perturb:=pert,dummy:=none }
noncomputable def st(mask:Nat)(h:Int)(n:Nat):Probe:=itr mask n (zuv mask (bits h % (mask+1)) (bits h))
noncomputable def pos(mask:Nat)(h:Int)(n:Nat):Nat:=(st mask h n).j
end ST
namespace ST
open PySem PySem.SetTable
noncomputable def Cut(ps:List Nat)(j c:Nat):Prop:=c<=ps.length/\(∀k x,k<c->ps[k]?=some x->x<j)/\∀k x,c<=k->ps[k]?=some x->j<=x
theorem zh4:∀(ps:List Nat) (j:Nat),ps.Pairwise (· < ·)->∃c,Cut ps j c
 | [],j,_=>⟨0,yal _,fun k x h _=>by omega,fun k x _ e=>by simp at e⟩
 | a::ps,j,h=>by
  obtain ⟨ha,hp⟩:=List.pairwise_cons.mp h
  by_cases hj:a<j
  ·obtain ⟨c,h1,h2,h3⟩:=zh4 ps j hp;refine ⟨c+1,Nat.succ_le_succ h1,fun k x hk e=>?_,fun k x hk e=>?_⟩
   ·cases k with
    | zero=>simp at e;omega
    | succ k=>exact h2 k x (by omega) (by simpa using e)
   ·cases k with
    | zero=>omega
    | succ k=>exact h3 k x (by omega) (by simpa using e)
  ·refine ⟨0,yaW _,fun k x hk _=>by omega,fun k x _ e=>?_⟩
   cases k with
   | zero=>simp at e;omega
   | succ k =>
    have:=ha x (yaZ (by simpa using e));omega
theorem zkq{xs:Array Nat}{j c:Nat}(hc:Cut xs.toList j c):∀(fuel lo hi:Nat),lo<=c->c<=hi->hi<=xs.size->hi-lo<=fuel->below.go xs j fuel lo hi=c
 | 0,lo,hi,h1,h2,h3,h4=>by unfold below.go;omega
 | fuel+1,lo,hi,h1,h2,h3,h4=>by
  unfold below.go
  by_cases hlt:lo<hi
  ·rw [if_pos hlt]
   have hm:(lo+hi) / 2<xs.size:=by omega
   have e:xs.toList[(lo+hi) / 2]?=some xs[(lo+hi) / 2]:=by rw [ybm];exact ybi hm
   have eD:xs.getD ((lo+hi) / 2) j=xs[(lo+hi) / 2]:=by simp [Array.getD,hm]
   show (if xs.getD ((lo+hi) / 2) j<j then below.go xs j fuel ((lo+hi) / 2+1) hi else below.go xs j fuel lo ((lo+hi) / 2))=c;rw [eD]
   by_cases hx:xs[(lo+hi) / 2]<j
   ·rw [if_pos hx];refine zkq hc fuel _ _ ?_ h2 h3 (by omega);refine Classical.byContradiction fun z=>?_
    have:=hc.2.2 ((lo+hi) / 2) _ (by omega) e;omega
   ·rw [if_neg hx];refine zkq hc fuel _ _ h1 ?_ (by omega) (by omega);refine Classical.byContradiction fun z=>?_
    have:=hc.2.1 ((lo+hi) / 2) _ (by omega) e;omega
  ·rw [if_neg hlt];omega
def zex{xs:Array Nat}{j c:Nat}(hc:Cut xs.toList j c):below xs j=c:=by
 unfold below;exact zkq hc _ _ _ (yaW _) (by have:=hc.1;simpa using this) (yal _) (by omega)
def zjd{t:SetTable}(hs:t.place.toList.Pairwise (· < ·))(hd:t.dummies=#[]){j:Nat}(h:j ∉ t.place.toList):t.slot j=.empty:=by
 obtain ⟨c,hc⟩:=zh4 t.place.toList j hs;unfold slot;rw [zex hc]
 have e:(t.place[c]? == some j)=false:=by
  rw [<-ybm]
  cases q:t.place.toList[c]? with
  | none=>rfl
  | some x =>
   have:x≠j:=fun z=>h (z ▸ yaZ q)
   simpa using this
 show (if (t.place[c]? == some j)=true then Slot.live c else if has t.dummies j=true then .dummy else .empty)=.empty;rw [e,if_neg (by simp),hd]
 have:has #[] j=false:=by unfold has below;rfl
 rw [this,if_neg (by simp)]
def zoJ{α:Type}(xs:List α)(c:Nat)(x y:α):y∈xs.take c++x::xs.drop c↔y=x\/y∈xs:=by
 have e:y∈xs↔y∈xs.take c++xs.drop c:=by rw [List.take_append_drop]
 rw [e];simp only [ybj,yap];constructor
 ·rintro (h | h | h)
  ·exact .inr (.inl h)
  ·exact .inl h
  ·exact .inr (.inr h)
 ·rintro (h | h | h)
  ·exact .inr (.inl h)
  ·exact .inl h
  ·exact .inr (.inr h)
def zcx{α:Type}(xs:Array α)(p:Nat)(x:α):(insertAt xs p x).toList=xs.toList.take p++x::xs.toList.drop p:=by
 simp [insertAt,List.extract_eq_take_drop,ybK]
def zqM{t:SetTable}(hd:t.dummies=#[])(j:Nat):t.put j=({ t with place:=insertAt t.place (below t.place j) j },below t.place j):=by
 unfold put
 have:has t.dummies j=false:=by rw [hd];unfold has below;rfl
 rw [this];simp
def znS{ps:List Nat}{j c:Nat}(hs:ps.Pairwise (· < ·))(hc:Cut ps j c)(hj:j ∉ ps):(ps.take c++j::ps.drop c).Pairwise (· < ·):=by
 rw [List.pairwise_append,List.pairwise_cons]
 have e:(ps.take c++ps.drop c).Pairwise (· < ·):=by rw [List.take_append_drop];exact hs
 rw [List.pairwise_append] at e
 have lo:∀x∈ps.take c,x<j:=fun x hx=>by
  obtain ⟨k,hk⟩:=ybX hx;rw [ycN] at hk;split at hk
  ·exact hc.2.1 k x (by assumption) hk
  ·cases hk
 have hi:∀x∈ps.drop c,j<x:=fun x hx=>by
  obtain ⟨k,hk⟩:=ybX hx;rw [ybo] at hk;have h1:=hc.2.2 (c+k) x (by omega) hk;have h2:x≠j:=fun z=>hj (z ▸ yaZ hk)
  omega
 refine ⟨e.1,⟨hi,e.2.1⟩,fun x hx y hy=>?_⟩
 rcases yap.mp hy with rfl | hy
 ·exact lo x hx
 ·have:=lo x hx;have:=hi y hy;omega
end ST
namespace ST
open PySem PySem.SetTable
end ST
namespace ST
open PySem PySem.Spec PyProof.Rows
section
variable{prog:Program}{w:World}{A:Around}{E:Z5}{s:Shared}
end
end ST
namespace ST
open PySem PySem.Spec PyProof.Rows
section
variable{prog:Program}{w:World}{A:Around}{E:Z5}{s:Shared}
def zvE{h:Heap}{a:Addr}{o:Obj}{es es':Array (Int×Value)}{ep:Nat}{t t':SetTable}(ho:h.get? a=some o)(hx:o.ExactSet)(hd:o.data=.set es ep t) :
  ∃o',(h.update a (Obj.putSet es' t')).get? a=some o'/\o'.ExactSet/\o'.data=.set es' (ep+1) t':=by
 refine ⟨{ o with data:=.set es' (ep+1) t' },?_,hx,rfl⟩;rw [ybl _ ho (by rw [putSet_of es' t' hd];rfl),putSet_of es' t' hd]
end
end ST
namespace ST
open PySem PySem.Spec PyProof.Rows
section
variable{prog:Program}{w:World}{A:Around}{R:Result->Shared->Prop}{s:Shared}
end
end ST
namespace PySem
section
variable{prog:Program}{w:World}{A:Around}{E:Z5}{s:Shared}
end
end PySem
namespace L2
open PySem PySem.Spec PyProof.Rows
section
variable{X:Cx}{a b c:Expr}{ta tb tc:TE}{pos:Pos}
def zhd:zdC X (.builtin "isinstance") (fun xs H Q=>∃x t c k,xs=[x,.ty c]/\TyOf X.K H x t/\PySem.W.kitOne X.K t (.type c)=some k/\Q (.bl k) H):=by
 intro pins s σ H xs us Q I r h;obtain ⟨x,t,c,k,rfl,ty,e,q⟩:=h
 cases r with
 | cons r1 rr =>
  cases rr with
  | cons r2 r3 =>
   cases r3;cases (show _=Value.type c from r2);exact zkg I r1 ty e fun tk=>⟨.bl k,H,I.tok tk,rfl,q⟩
def zfc(bs:List Bool):((List.range bs.length).all fun i=>(bs[i]?).getD true)=bs.all id:=by
 rw [ybR,ybf,ybf];constructor
 ·intro h b hb;obtain ⟨i,hi,e⟩:=ycy.mp hb;have:=h i (ybq.mpr hi);rwa [yac hi,e] at this
 ·intro h i hi;have hi':=ybq.mp hi;rw [yac hi'];exact h _ (ya7 hi')
def zhe(hc:X.calm=true):zdC X (.builtin "all") (fun xs H Q=>∃(p:Addr) (bs:List Bool),xs=[.ref p]/\SqL X.K H p (bs.map V.bl)/\Q (.bl (bs.all id)) H):=by
 intro pins s σ H xs us Q I r h;obtain ⟨p,bs,rfl,hq,q⟩:=h;obtain ⟨u,rfl,rx⟩:=zfK r;cases rx;obtain ⟨its,rv,pl,hz⟩:=I.list hq;have hl:=pl.isList
 have hlt:p<s.heap.objs.size:=by obtain ⟨_,e,_⟩:=hl;exact yai e
 have hn:its.length=bs.length:=by have:=rv.length;rw [yaf] at this;exact this.symm
 refine call_all_walk (ybV hl ?_);refine ⟨s.heap.objs.size,[s.heap.objs.size,p],[s.heap.objs.size],its.toArray.size,_,_,fun i=>(bs[i]?).getD true,rfl,Walks.list (A:=X.A.in1) (I.ok.hd hc) _ p (yar hlt) its.toArray,⟨⟨_,yam _ rfl,rfl,rfl⟩,hl.push _⟩,fun i v s' Q' E' hP hQ=>?_,fun h' tk hk=>?_⟩
 ·have hv:its[i]?=some v:=by simpa using hP
  have hi:i<bs.length:=by rw [<-hn];exact (yan.mp hv).1
  obtain ⟨u,hu,ru⟩:=rv.get (i:=i) (x:=.bl bs[i]) (by rw [yas,yac hi];rfl);rw [hv] at hu;cases hu;cases (show v=Value.bool bs[i] from ru);refine ya9 ?_;have hQ':Q' ((bs[i]?).getD true) s':=hQ;rwa [yac hi] at hQ'
 ·rw [yag,hn,zfc];refine ⟨.bl _,H,I.kept (t':=tk) fun b o e=>?_,rfl,q⟩;exact hk b o (fun hm=>by rw [yaU.mp hm] at e;exact yaY _ (yai e)) (yae _ e)
def zgU:OpR X (compareOp .IsNot) (fun x y H Q=>∃i j,x=.bl i/\y=.bl j/\Q (.bl (!decide (i=j))) H):=by
 intro pins s σ H x y v u Q I rx ry h;obtain ⟨i,j,rfl,rfl,q⟩:=h;cases rx;cases ry;show wpAny _ _ (isSame (Value.bool i) (Value.bool j) >>= fun r=>pure (Value.bool (!r))) _ _ s;refine yaa (wpAny_isSame_plain (by rfl) (yad ?_));refine ⟨.bl (!decide (i=j)),H,I,?_,q⟩;show _=Value.bool _;congr 1
 cases i<;>cases j<;>rfl
def zlQ:OpR X (binaryOp .Add) (fun x y H Q=>∃(a b:Addr) (ys:List V),x=.ref a/\y=.ref b/\SqT X.K H a []/\SqT X.K H b ys/\Q (.ref b) H):=by
 intro pins s σ H x y v u Q I rx ry h;obtain ⟨a,b,ys,rfl,rfl,ha,hb,q⟩:=h;cases rx;cases ry;obtain ⟨its,r1,p1,_⟩:=I.tuple ha;obtain ⟨its2,r2,p2,_⟩:=I.tuple hb;cases r1;obtain ⟨⟨cls,dd,data,sl⟩,ho,hc,n,hd⟩:=id p1;obtain ⟨⟨cls2,dd2,data2,sl2⟩,ho2,hc2,n2,hd2⟩:=id p2;simp only at hc hd hc2 hd2;subst hc hd hc2 hd2
 exact concat_meets ⟨_,ho,rfl⟩ ⟨_,ho2,rfl⟩ noFill_tuple_add seq_tuple_add ycj ycd (yb8 _ _)
  (tuple_addW0 a b ([]:List Value).toArray its2.toArray n n2 dd dd2 sl sl2 (by rfl)) ⟨ho,ho2,⟨.ref b,H,I,rfl,q⟩⟩
end
end L2
namespace PySem
open PySem.Spec PyProof.Rows
def zcF:fillsNumberSlot (.type "tuple") "mul" = pure false :=
 fillsNumberSlot_seq (id:="tuple.__mul__") (r:=some (.builtin "tuple.__rmul__")) ycv.lookup (by decide +kernel) F.slot_tuple_rmul.lookup (by decide +kernel)
def zeJ:seqRepeat? (.type "tuple")=pure (some (.builtin "tuple.__mul__")):=by
 have e1:=seqSlot_of (T:="tuple") (name:="__mul__") (id:="tuple.__mul__") ycv.lookup (by decide +kernel);have e2:=seqSlot_of (T:="tuple") (name:="__rmul__") (id:="tuple.__rmul__") F.slot_tuple_rmul.lookup (by decide +kernel);unfold seqRepeat?;rw [e1,e2];rfl
def zdJ(a:Int)(t:Tok)(l:Addr)(o:Obj){its:Array Value}{n:Nat}(hc:o.cls=.type "tuple")(hdd:o.data=.seq its n) :
  Meets (Builtin.«int.__rmul__» ⟨[.int a t,.ref l],[]⟩) (fun _ R s=>s.heap.get? l=some o/\R (.ok (.ret Value.notImplemented)) s) :=
 .of_wp fun prog w A R s h=>by
  obtain ⟨c,d,dt,sl⟩:=o;simp only at hc hdd;subst hc hdd;obtain ⟨hp,g,dr,tk,os⟩:=s;obtain ⟨hl,h⟩:=h
  wp_walk
  exact ⟨_,rfl,h⟩
section
variable{prog:Program}{w:World}{A:Around}{E:Z5}{s:Shared}
def zfM{a:Addr}{o:Obj}{its:Array Value}{n:Nat}{k:Int}{t:Tok}{P:Fin->Shared->Prop}(ho:s.heap.get? a=some o)(hc:o.cls=.type "tuple")(hd:o.data=.seq its n)(hne:its.isEmpty=false)(h2:2<=k)(hz:(its.size:Int)*k<=1000000)(hk:k<=1000)
  (h:P (.done (.ret (.ref s.heap.objs.size))) { s with heap:=s.heap.push { cls:=.type "tuple",data:=.seq ((List.replicate k.toNat its).foldl (·++·) #[]) } }) (hsz:((List.replicate k.toNat its).foldl (·++·) #[]).size<=sizeLine) :
  wpAny (model prog w) A (Builtin.«tuple.__mul__» ⟨[.ref a,.int k t],[]⟩) P E s:=by
 show wpAny _ _ (asIndex (.int k t) >>= _) _ _ s;refine yaa ?_;unfold asIndex;refine yaa (yad ?_);dsimp only;refine yad ?_
 have e0:(decide (k < -(2 ^ 63))||decide (k ≥ 2 ^ 63))=false:=by
  rw [Bool.or_eq_false_iff];refine ⟨yaH ?_,yaH ?_⟩
  ·omega
  ·omega
 rw [e0];simp only [yaD,yby];refine yaa (ycO ho hd ?_)
 have e1:(its.isEmpty||k == 1)=false:=by rw [hne,Bool.false_or];simp;omega
 rw [e1];simp only [yaD,yby]
 have e2:(decide (k<=0)||its.isEmpty)=false:=by rw [hne,Bool.or_false];exact yaH (by omega)
 rw [e2];simp only [yaD,yby];rw [if_neg (by omega)]
 have e3:Builtin.Tuple.tupleTooMany (its.size*k)=false:=by
  unfold Builtin.Tuple.tupleTooMany;refine yaH ?_
  have:(1000000:Int)<=(sizeLine:Int):=by decide
  omega
 rw [e3];simp only [yaD,yby];unfold Builtin.Tuple.tupleExact;exact yaa (yaR (yad h) hsz)
def zfL{a:Addr}{o:Obj}{its:Array Value}{n:Nat}{t:Tok}{P:Fin->Shared->Prop}(ho:s.heap.get? a=some o)(hc:o.cls=.type "tuple")(hd:o.data=.seq its n)(h:P (.done (.ret (.ref a))) s) :
  wpAny (model prog w) A (Builtin.«tuple.__mul__» ⟨[.ref a,.int 1 t],[]⟩) P E s:=by
 show wpAny _ _ (asIndex (.int 1 t) >>= _) _ _ s;refine yaa ?_;unfold asIndex;refine yaa (yad ?_);dsimp only;refine yad ?_
 have e0:(decide ((1:Int) < -(2 ^ 63))||decide ((1:Int) ≥ 2 ^ 63))=false:=by decide
 rw [e0];simp only [yaD,yby];refine yaa (ycO ho hd ?_)
 have e1:(its.isEmpty||(1:Int) == 1)=true:=by simp
 rw [e1];simp only [ybP];unfold Builtin.Tuple.tupleIsExact;refine yaa (yaa (ycM (T:="tuple") ⟨o,ho,hc⟩ (yad ?_)));simp only [ybA,ybP];exact yaa (ycC (yad h))
def zoG{a:Addr}{o:Obj}{its:Array Value}{n:Nat}{k:Int}{t:Tok}{Q:Z5}(ho:s.heap.get? a=some o)(hc:o.cls=.type "tuple")(hd:o.data=.seq its n)(hne:its.isEmpty=false)(h2:2<=k)(hz:(its.size:Int)*k<=1000000)(hk:k<=1000)
  (h:Q (.ref s.heap.objs.size) { s with heap:=s.heap.push { cls:=.type "tuple",data:=.seq ((List.replicate k.toNat its).foldl (·++·) #[]) } }) (hsz:((List.replicate k.toNat its).foldl (·++·) #[]).size<=sizeLine) :
  wpAny (model prog w) A (binaryOp .Mult (.ref a) (.int k t)) Q E s:=by
 have hT:s.TypeIs (.ref a) "tuple":=⟨o,ho,hc⟩
 refine ybY (T:="tuple") (U:="int") (by decide) hT (fun s'=>ycD s' k t) zcF F.fills_int_mul ybQ zeJ F.slot_int_index.lookup
  (ycE ybQ (ycD s k t) F.entry_int_rmul (ycV _ _) (zdJ k t a o hc hd) ⟨ho,rfl,hT,?_⟩)
 exact yaN ycv hT F.entry_tuple_mul (zfM ho hc hd hne h2 hz hk ⟨_,rfl,h⟩ hsz) (F.args_tuple_mul_2 _ _)
def zlW{a:Addr}{o:Obj}{its:Array Value}{n:Nat}{t:Tok}{Q:Z5}(ho:s.heap.get? a=some o)(hc:o.cls=.type "tuple")(hd:o.data=.seq its n)(h:Q (.ref a) s):wpAny (model prog w) A (binaryOp .Mult (.ref a) (.int 1 t)) Q E s:=by
 have hT:s.TypeIs (.ref a) "tuple":=⟨o,ho,hc⟩
 refine ybY (T:="tuple") (U:="int") (by decide) hT (fun s'=>ycD s' 1 t) zcF F.fills_int_mul ybQ zeJ F.slot_int_index.lookup
  (ycE ybQ (ycD s 1 t) F.entry_int_rmul (ycV _ _) (zdJ 1 t a o hc hd) ⟨ho,rfl,hT,?_⟩)
 exact yaN ycv hT F.entry_tuple_mul (zfL ho hc hd ⟨_,rfl,h⟩) (F.args_tuple_mul_2 _ _)
end
end PySem
namespace L2
open PySem PySem.Spec PyProof.Rows
inductive D where
 | non | bl (b:Bool) | int (i:Int) | str (x:Str) | tup (l:List D) | lst (l:List D)
section
variable{X:Cx}
def zot:OpR X (binaryOp .Mult) (fun x y H Q=>∃(p:Addr) (k:Int) (xs:List V),x=.ref p/\y=.int k/\SqT X.K H p xs/\xs≠[]/\2<=k/\k<=1000/\xs.length<=1000/\∀l,H l=none->Q (.ref l) (upd H l (.tup (List.replicate k.toNat xs).flatten))):=by
 intro pins s σ H x y v u Q I rx ry h;obtain ⟨p,k,xs,rfl,rfl,hq,hne,h2,hk,hx,q⟩:=h;cases rx;obtain ⟨t,rfl⟩:=ry;obtain ⟨its,rv,⟨o,ho,hc,n,hd⟩,_⟩:=I.tuple hq;have hl:=rv.length
 have hnew:(List.replicate k.toNat its.toArray).foldl (·++·) #[]=(List.replicate k.toNat its).flatten.toArray:=by
  have:=zeo its k.toNat [];rwa [List.nil_append] at this
 have hsz:(List.replicate k.toNat its).flatten.length<=1000000:=by
  rw [zg0];exact yao (ybr (show k.toNat<=1000 by omega) (show its.length<=1000 by omega)) (by decide)
 have hline:(1000000:Nat)<=sizeLine:=by decide
 refine zoG ho hc hd ?_ h2 ?_ hk ?_ ?_
 ·have:its≠[]:=fun z=>hne (by cases xs with | nil=>rfl | cons a r=>rw [z] at hl;cases hl)
  simpa using this
 ·rw [yag];have:=Int.mul_le_mul (show (its.length:Int)<=1000 by omega) hk (by omega) (by omega);omega
 ·rw [hnew];refine ⟨.ref s.heap.objs.size,_,I.laid (t':=s.toks) (o:=.tup (List.replicate k.toNat xs).flatten) (fun b ob q=>yae _ q) (yal _) ?_,rfl,q _ (I.hok.fresh (yal _))⟩;refine ⟨?_,_,rv.rep k.toNat,IsTup.new _ _⟩;rw [zg0] at hsz ⊢;rw [<-hl] at hsz;omega
 ·rw [hnew,yag];omega
end
end L2
namespace HT
open PySem PySem.Spec PyProof.Rows L2
section
variable{prog:Program}{w:World}{A:Around}{E:Z5}{s:Shared}
def zdw{t sl:Addr}{items:Array Value}{vl vu:Value}{lo hi:Option Int}{Q:Z5}(ht:IsTup s.heap t items)(hs:s.heap.IsSliceOf sl vl vu .none)(pl:IsPart vl lo)(pu:IsPart vu hi)
  (h1:sIx items.size 0 lo=0) (h2:sIx items.size items.size hi=items.size) (h:Q (.ref t) s):wpAny (model prog w) A (getItem (.ref t) (.ref sl)) Q E s:=by
 obtain ⟨os,hos,hcs,hds⟩:=id hs;have hTs:s.TypeIs (.ref sl) "slice":=⟨os,hos,hcs⟩;unfold getItem
 try with_reducible refine ya5 ?_
 first | refine yaa (yad ?_) | skip
 refine yaa (wpAny_sequenceKey ht.typeIs (by decide) ?_)
 refine yaa (yaT (name:=Str.ofString "__getitem__") ht.typeIs ya0
  (yaN ya0 ht.typeIs entry_tuple_getitem ?_ (args_tuple_getitem _ _)))
 show wpAny _ _ (Builtin.Tuple.tupleItemsOf (.ref t) >>= _) _ _ s;refine yaa (tupleItemsOf_ ht ?_);refine yaa (ycM hTs ?_);rw [if_pos (by decide)];refine yaa (zb8 hs pl pu ?_);rw [h1,h2];show wpAny _ _ (if ((((0:Nat):Int) == 0&&(1:Int) == 1&&(items.size-0) == items.size)=true) then _ else _) _ _ s;rw [if_pos (by simp)];unfold Builtin.Tuple.tupleIsExact;refine yaa (yaa (ycM ht.typeIs (yad ?_)));simp only [ybA,ybP];refine yaa (ycC ?_)
 first
  | exact yad ⟨_,rfl,yad h⟩
  | exact yaa (yad (yad ⟨_,rfl,yad h⟩))
end
end HT
namespace L2
open PySem PySem.Spec PyProof.Rows
def zin{X:Cx}:SlR X (fun x lo hi H Q=>∃(a:Addr) (xs:List V),x=.ref a/\SqT X.K H a xs/\HT.sIx xs.length 0 lo=0/\HT.sIx xs.length xs.length hi=xs.length/\Q (.ref a) H):=by
 intro pins s σ H x v vl vu lo hi sl Q I rx hs pl pu h;obtain ⟨a,xs,rfl,hx,h1,h2,q⟩:=h;cases rx;obtain ⟨its,r,ht,hz⟩:=I.tuple hx
 have hlen:its.toArray.size=xs.length:=by rw [yag];exact r.length.symm
 refine ⟨"tuple",_,ya0.lookup,ht.typeIs,?_⟩;exact HT.zdw ht hs pl pu (by rw [hlen];exact h1) (by rw [hlen];exact h2) ⟨.ref a,H,I,rfl,q⟩
end L2
namespace L2
open PySem PySem.Spec PyProof.Rows
mutual
noncomputable def D.py:D->PyData
 | .non=>.none
 | .bl b=>.bool b
 | .int i=>.int i
 | .str x=>.str x
 | .tup l=>.tuple (D.pys l)
 | .lst l=>.list (D.pys l)
noncomputable def D.pys:List D->List PyData
 | []=>[]
 | d::l=>d.py::D.pys l
end
mutual
noncomputable def D.fit:Nat->D->Bool
 | _,.non=>true
 | _,.bl _=>false
 | _,.int _=>true
 | _,.str x=>PyData.strOk x
 | 0,.tup _=>false
 | n+1,.tup l=>D.fits n l
 | 0,.lst _=>false
 | n+1,.lst l=>D.fits n l
noncomputable def D.fits:Nat->List D->Bool
 | _,[]=>true
 | n,d::l=>d.fit n&&D.fits n l
end
theorem D.fits_iff{n:Nat}:∀{l:List D},D.fits n l=true↔∀d∈l,d.fit n=true
 | []=>by simp [D.fits]
 | d::l=>by simp [D.fits,D.fits_iff (l:=l)]
mutual
theorem D.lay:∀{n:Nat} {d:D},d.fit n=true->d.py.canLay0=true/\d.py.depth<=n
 | _,.non,_=>⟨rfl,yaW _⟩
 | _,.bl _,h=>by simp [D.fit] at h
 | _,.int _,_=>⟨rfl,yaW _⟩
 | _,.str x,h=>⟨by simpa [D.fit,D.py,PyData.canLay0] using h,yaW _⟩
 | 0,.tup _,h=>by simp [D.fit] at h
 | 0,.lst _,h=>by simp [D.fit] at h
 | n+1,.tup l,h=>by
  have h':D.fits n l=true:=by simpa [D.fit] using h
  obtain ⟨a,b⟩:=D.lays h';exact ⟨by simpa [D.py,PyData.canLay0] using a,by simp only [D.py,PyData.depth];omega⟩
 | n+1,.lst l,h=>by
  have h':D.fits n l=true:=by simpa [D.fit] using h
  obtain ⟨a,b⟩:=D.lays h';exact ⟨by simpa [D.py,PyData.canLay0] using a,by simp only [D.py,PyData.depth];omega⟩
theorem D.lays:∀{n:Nat} {l:List D},D.fits n l=true->PyData.canLayAll0 (D.pys l)=true/\PyData.depthAll (D.pys l)<=n
 | _,[],_=>⟨rfl,yaW _⟩
 | n,d::l,h=>by
  simp only [D.fits,yab] at h;obtain ⟨a,b⟩:=D.lay h.1;obtain ⟨c,e⟩:=D.lays h.2;exact ⟨by simp [D.pys,PyData.canLayAll0,a,c],by simp only [D.pys,PyData.depthAll];omega⟩
end
section
variable{X:Cx}
def zgT{h:Heap}{v:Value}{d:PyData}{as:List Addr}(hl:d.canLay0=true)(r:Reads h v d as):SeqAt.readOf h v=d:=by
 have hx:∃d as,Reads h v d as:=⟨d,as,r⟩;unfold SeqAt.readOf;rw [dif_pos hx];obtain ⟨bs,rb⟩:=hx.choose_spec;exact (SeqAt.Reads.unique _ _ _ _ _ hl r rb).symm
end
end L2
namespace L2
open PySem PySem.Spec PyProof.Rows
noncomputable def zjS:Option Int->Value->Bool
 | none,.none=>true
 | some i,v=>Value.isInt i v
 | _,_=>false
theorem zaG:∀{k:Option Int} {v:Value},zjS k v=true->(k=none/\v=.none)\/∃i t,k=some i/\v=.int i t
 | none,v,h=>by
  cases v<;>simp [zjS] at h
  exact .inl ⟨rfl,rfl⟩
 | some i,v,h=>by
  obtain ⟨t,e⟩:=ycU (k:=i) (v:=v) (by simpa [zjS] using h);exact .inr ⟨i,t,rfl,e⟩
noncomputable def zhN:Int:=reduceHash 0xFCA86420
def zko{prog:Program}{w:World}{A:Around}{E:Z5}{s:Shared}{Q:Int->Shared->Prop}(h:Q zhN { s with toks:=s.toks+1 }):wpAny (model prog w) A (pyHash .none) Q E s :=
 PySem.W.pyHash_slot (T:="NoneType") rfl F.slot_NoneType_hash F.entry_NoneType_hash (F.args_NoneType_hash_1 _) (beq_builtin_none _) (.inl rfl) (yaa (yad (yaa (wpAny_mkInt (yad ⟨_,_,rfl,h⟩)))))
noncomputable def zdt(prog:Program)(w:World):KeyKind prog w (Option Int) where
 is:=zjS
 hash:=fun k=>match k with | none=>zhN | some i=>hashInt i
 inj:=fun v a b ha hb=>by
  rcases zaG ha with ⟨rfl,rfl⟩ | ⟨i,t,rfl,rfl⟩<;>rcases zaG hb with ⟨rfl,e⟩ | ⟨j,u,rfl,e⟩<;>cases e<;>rfl
 byValue:=fun k v h=>by
  rcases zaG h with ⟨rfl,rfl⟩ | ⟨i,t,rfl,rfl⟩<;>rfl
 pyHash:=fun {A E s k v Q} h hq=>by
  rcases zaG h with ⟨rfl,rfl⟩ | ⟨i,t,rfl,rfl⟩
  ·exact zko hq
  ·exact wpAny_pyHash_int hq
 eqBool:=fun {A E s a b u v Q} ha hb hq=>by
  rcases zaG ha with ⟨rfl,rfl⟩ | ⟨i,t,rfl,rfl⟩<;>rcases zaG hb with ⟨rfl,rfl⟩ | ⟨j,u,rfl,rfl⟩
  ·unfold PySem.eqBool;refine ya5 ?_;refine yce (fun _=>yaa (ycC (yad (by simpa using hq)))) (fun z=>absurd rfl z)
  ·exact SeqAt.EqAt.none_int j u prog w E Q (by simpa using hq)
  ·exact SeqAt.EqAt.int_none i t prog w E Q (by simpa using hq)
  ·refine SeqAt.EqAt.int_int i t j u prog w E Q ?_
   have e:decide (some i=some j)=(i == j):=by
    rw [ybR];simp
   rw [<-e];exact hq
 «strs»:=fun k x t v h=>by
  rcases zaG h with ⟨_,e⟩ | ⟨i,u,_,e⟩<;>cases e
noncomputable abbrev NK:=Int×List (Option Int)
noncomputable def zds:Option Int->PyData | none=>.none | some i=>.int i
noncomputable def zdo(prog:Program)(w:World)(h:Heap)(k:NK)(a:Addr):Prop:=∃o items n t b,h.get? a=some o/\o.cls=.type "tuple" /\ o.data=.seq items n/\items.toList=[.int k.1 t,.ref b]/\IsTupleKey (zdt prog w) h k.2 b
section
variable{prog:Program}{w:World}{A:Around}{E:Z5}{s:Shared}
noncomputable def zlV(prog:Program)(w:World)(k:NK):Int:=reduceHash (Builtin.Tuple.tupleHashOf [hashInt k.1,tupleKeyHash (zdt prog w) k.2])
def zdo.typeIs{k:NK}{a:Addr}(x:zdo prog w s.heap k a):s.TypeIs (.ref a) "tuple":=let ⟨o,_,_,_,_,ho,hc,_⟩:=x;⟨o,ho,hc⟩
theorem zcM{h:Heap}:∀{l:Z4} {vs:List Value},ItemsAre (zdt prog w) l vs->ReadsAll h vs (l.map zds) []
 | _,_,.nil=>.nil
 | _,_,.cons h1 r=>by
  rcases zaG h1 with ⟨rfl,rfl⟩ | ⟨i,t,rfl,rfl⟩
  ·exact .cons (as:=[]) (bs:=[]) .none (zcM r)
  ·exact .cons (as:=[]) (bs:=[]) (.int i t) (zcM r)
def zdo.reads{h:Heap}{k:NK}{a:Addr}(x:zdo prog w h k a):Reads h (.ref a) (.tuple [.int k.1,.tuple (k.2.map zds)]) []:=by
 obtain ⟨o,items,n,t,b,ho,hc,hd,hi,ob,its,m,hob,hcb,hdb,hib⟩:=x;refine .tuple ho hc hd ?_;rw [hi];exact .cons (as:=[]) (bs:=[]) (.int _ _) (.cons (as:=[]) (bs:=[]) (.tuple hob hcb hdb (zcM hib)) .nil)
theorem zf7:∀{l m:Z4},PyData.eqvAll (l.map zds) (m.map zds)=decide (l=m)
 | [],[]=>by simp [PyData.eqvAll]
 | [],_::_=>by simp [PyData.eqvAll]
 | _::_,[]=>by simp [PyData.eqvAll]
 | x::l,y::m=>by
  have ih:=zf7 (l:=l) (m:=m);simp only [yau,PyData.eqvAll,ih]
  cases x<;>cases y<;>simp [zds,PyData.eqv]
  rw [ybR];simp
theorem zd0:∀{l:Z4},PyData.canLayAll0 (l.map zds)=true/\PyData.depthAll (l.map zds)=0
 | []=>⟨rfl,rfl⟩
 | x::l=>by
  obtain ⟨a,b⟩:=zd0 (l:=l)
  cases x<;>simp [zds,PyData.canLayAll0,PyData.depthAll,PyData.canLay0,PyData.depth,a,b]
noncomputable def zdd(prog:Program)(w:World):HeapKind prog w NK where
 is:=zdo prog w
 hash:=zlV prog w
 draws:=fun k=>1+(k.2.length+1)+1
 room:=fun A=>A.units+8<cLine
 inj:=fun {h a x y} hx hy=>by
  obtain ⟨o,items,n,t,b,ho,hc,hd,hi,kx⟩:=hx;obtain ⟨o',items',n',t',b',ho',hc',hd',hi',ky⟩:=hy;rw [ho] at ho';cases ho';rw [hd] at hd';cases hd';rw [hi] at hi';simp only [List.cons.injEq,Value.int.injEq,Value.ref.injEq,and_true] at hi';obtain ⟨⟨e1,_⟩,e2⟩:=hi';subst e2;exact Prod.ext e1 (kx.inj ky)
 keeps:=fun {h h' k a d o es ep} x ho hd hs=>by
  obtain ⟨o1,items,n,t,b,ho1,hc,hd1,hi,kx⟩:=x;refine ⟨o1,items,n,t,b,(hs.2 a ?_).trans ho1,hc,hd1,hi,kx.keeps ho hd hs⟩;rintro rfl;rw [ho] at ho1;cases ho1;rw [hd] at hd1;cases hd1
 pyHash:=fun {A E s k a Q} hu x hq=>by
  have hT:=zdo.typeIs (prog:=prog) (w:=w) x;obtain ⟨o,items,n,t,b,ho,hc,hd,hi,kx⟩:=x;refine PySem.W.pyHash_slot (T:="tuple") hT F.slot_tuple_hash F.entry_tuple_hash (F.args_tuple_hash_1 _) (beq_builtin_none _) (.inr (by omega)) ?_;show wpAny _ _ (Builtin.Tuple.tupleItemsOf (.ref a) >>= _) _ _ s;refine yaa (ycO ho hd ?_);refine yaa ?_;rw [<-ycP,hi];refine wpAny_forIn_list _ (fun zbq (r:Array Int) s'=>(zbq=[.int k.1 t,.ref b]/\r.toList=[]/\s'=s)\/(zbq=[.ref b]/\r.toList=[hashInt k.1]/\s'={ s with toks:=s.toks+1 })\/(zbq=[]/\r.toList=[hashInt k.1,tupleKeyHash (zdt prog w) k.2]/\s'={ s with toks:=s.toks+1+(k.2.length+1) })) _ ?_ ?_ _ _ (.inl ⟨rfl,rfl,rfl⟩)
  ·rintro x zbq r s' (⟨e,hr,rfl⟩ | ⟨e,hr,rfl⟩ | ⟨e,hr,rfl⟩)
   ·injection e with e1 e2
    subst e1 e2;refine yaa (wpAny_pyHash_int ?_)
    first
     | exact yad (.inr (.inl ⟨rfl,by simp [hr],rfl⟩))
     | exact yaa (yad (yad (.inr (.inl ⟨rfl,by simp [hr],rfl⟩))))
   ·injection e with e1 e2
    subst e1 e2;refine yaa (wpAny_pyHash_tuple (A:=A.in1) (by show A.units+1<cLine;omega) kx ?_)
    first
     | exact yad (.inr (.inr ⟨rfl,by simp [hr],rfl⟩))
     | exact yaa (yad (yad (.inr (.inr ⟨rfl,by simp [hr],rfl⟩))))
   ·cases e
  ·rintro r s' (⟨e,_⟩ | ⟨e,_⟩ | ⟨_,hr,rfl⟩)
   ·cases e
   ·cases e
   ·show wpAny _ _ (retInt (Builtin.Tuple.tupleHashOf r.toList)) _ _ _;rw [hr];refine yaa (wpAny_mkInt (yad ⟨_,_,rfl,?_⟩))
    have e:s.toks+1+(k.2.length+1)+1=s.toks+(1+(k.2.length+1)+1):=by omega
    show Q _ { s with toks:=s.toks+1+(k.2.length+1)+1 };rw [e];exact hq
 eqBool:=fun {A E s x y a b Q} hu hx hy hq=>by
  refine SeqAt.eqAt_reads _ _ A s (.ref a) (.ref b) [] [] hx.reads hy.reads ?_ ?_ ?_ prog w E Q ?_
  ·simp [PyData.canLay0,PyData.canLayAll0,zd0.1]
  ·simp [PyData.canLay0,PyData.canLayAll0,zd0.1]
  ·have h1:(PyData.tuple [.int x.1,.tuple (x.2.map zds)]).depth<=3:=by
    simp [PyData.depth,PyData.depthAll,zd0.2]
   have:min (PyData.tuple [.int x.1,.tuple (x.2.map zds)]).depth (PyData.tuple [.int y.1,.tuple (y.2.map zds)]).depth<=3:=yao (Nat.min_le_left _ _) h1;omega
  ·have e:(PyData.tuple [.int x.1,.tuple (x.2.map zds)]).eqv (.tuple [.int y.1,.tuple (y.2.map zds)])=decide (x=y):=by
    simp only [PyData.eqv,PyData.eqvAll,zf7];rw [ybR];simp [Prod.ext_iff]
   rw [e];exact hq
 quiet:=fun {A E s k a Q} x hq=>by
  have hT:=zdo.typeIs (prog:=prog) (w:=w) x;obtain ⟨o,items,n,t,b,ho,hc,hd,hi,kx⟩:=x;have hTb:=kx.typeIs;obtain ⟨ob,its,m,hob,hcb,hdb,hib⟩:=kx
  have low:wpAny (model prog w) A (eqIsQuiet 7 (.ref b)) (fun r s'=>r=true/\s'=s) E s:=by
   unfold eqIsQuiet;refine yaa (wpAny_specialOf hTb F.slot_tuple_eq.lookup ?_);show wpAny _ _ (isInstance (.ref b) (.type "tuple") >>= _) _ _ s;refine yaa (ybH hTb isSubtype_tuple_tuple ?_);simp only [ycA,yaD,yby];refine yaa (ybJ hob hdb (yaa ?_));show wpAny _ _ (forIn its _ _) _ _ s;rw [<-ycP];refine wpAny_forIn_list _ (fun zbq r s'=>r.1=none/\s'=s/\∀v∈zbq,carriedByValue v=true) _ ?_ ?_ _ _ ⟨rfl,rfl,hib.byValue⟩
   ·rintro v zbq r s' ⟨hr,rfl,hall⟩;rw [eqIsQuiet_byValue _ (hall v yaE)];refine yaa (yad ?_);simp only [ycA,yaD,yby];exact yad ⟨rfl,rfl,fun z hz=>hall z (yav _ hz)⟩
   ·rintro ⟨r1,r2⟩ s' ⟨hr,rfl,_⟩;simp only at hr;subst hr;exact yad ⟨rfl,rfl⟩
  unfold eqIsQuiet;refine yaa (wpAny_specialOf hT F.slot_tuple_eq.lookup ?_);show wpAny _ _ (isInstance (.ref a) (.type "tuple") >>= _) _ _ s;refine yaa (ybH hT isSubtype_tuple_tuple ?_);simp only [ycA,yaD,yby];refine yaa (ybJ ho hd (yaa ?_));show wpAny _ _ (forIn items _ _) _ _ s;rw [<-ycP,hi];refine wpAny_forIn_list _ (fun zbq r s'=>r.1=none/\s'=s/\(zbq=[.int k.1 t,.ref b]\/zbq=[.ref b]\/zbq=[])) _ ?_ ?_ _ _ ⟨rfl,rfl,.inl rfl⟩
  ·rintro v zbq r s' ⟨hr,rfl,(e | e | e)⟩
   ·injection e with e1 e2
    subst e1 e2;rw [eqIsQuiet_byValue _ rfl];refine yaa (yad ?_);simp only [ycA,yaD,yby];exact yad ⟨rfl,rfl,by simp⟩
   ·injection e with e1 e2
    subst e1 e2;refine yaa (ybt low (fun r' s'' hz=>?_) fun _ _ z=>z);obtain ⟨rfl,rfl⟩:=hz;simp only [ycA,yaD,yby];exact yad ⟨rfl,rfl,by simp⟩
   ·cases e
  ·rintro ⟨r1,r2⟩ s' ⟨hr,rfl,_⟩;simp only at hr;subst hr;exact yad hq
end
end L2
namespace L2
open PySem PySem.Spec PyProof.Rows
section
variable{σ:St}{H:Hp}{K:PySem.W.Frag}{te:TE}{tt:TT}{caps:List (Str×Nat)}{Q:VK}
end
end L2
namespace L2
open PySem PySem.Spec PyProof.Rows
noncomputable def oV:Option Int->V | none=>.non | some i=>.int i
noncomputable def DN(P:Program)(w:World)(a:Addr)(xs:List (NK×Addr×Value))(h:Heap):Prop :=
 ∃o es ep,h.get? a=some o/\o.ExactDict/\o.data=.dict es ep/\es.toList=xs.map (entryOfKey (zdd P w))/\(xs.map (·.1)).Nodup/\(a == sysModules)=false
noncomputable def zhi(H:Hp)(kb:Addr)(k:NK):Prop:=∃b,H kb=some (.tup [.int k.1,.ref b])/\H b=some (.tup (k.2.map oV))
noncomputable def zmQ(H:Hp)(xs:List (NK×Addr×Value))(m:List (NK×V)):Prop:=Paired (fun (x:NK×Addr×Value) (p:NK×V)=>x.1=p.1/\zhi H x.2.1 x.1/\zaJ p.2 x.2.2) xs m
def zh1{P:Program}{w:World}{a:Addr}{xs:List (NK×Addr×Value)}:∀h1 h2:Heap,DN P w a xs h1->(∀o,h1.get? a=some o->h2.get? a=some o)->DN P w a xs h2:=fun h1 h2 ⟨o,es,ep,e,r⟩ k=>⟨o,es,ep,k _ e,r⟩
section
variable{X:Cx}{pins:Z3}{σ:St}{H:Hp}{s:Shared}
theorem zd2:∀{l:Z4} {its:List Value},Vals (l.map oV) its->ItemsAre (zdt X.prog X.w) l its
 | [],_,.nil=>.nil
 | none::l,_,.cons r t=>by
  cases r;exact .cons rfl (zd2 t)
 | some i::l,_,.cons r t=>by
  obtain ⟨u,rfl⟩:=r;exact .cons (by simp [zdt,zjS,Value.isInt]) (zd2 t)
def Inv.nest(I:Inv X pins σ H s){kb:Addr}{k:NK}(h:zhi H kb k):zdo X.prog X.w s.heap k kb:=by
 obtain ⟨b,h1,h2⟩:=h;obtain ⟨its,rv,⟨o,ho,hc,n,hd⟩,_⟩:=I.tuple (SqT.of (K:=X.K) h1);obtain ⟨its2,rv2,⟨o2,ho2,hc2,n2,hd2⟩,_⟩:=I.tuple (SqT.of (K:=X.K) h2)
 cases rv with
 | cons r1 rr =>
  cases rr with
  | cons r2 rr =>
   cases rr;obtain ⟨t,rfl⟩:=r1;cases r2;exact ⟨o,_,n,t,b,ho,hc,hd,rfl,o2,_,n2,ho2,hc2,hd2,by simpa using zd2 rv2⟩
def zmQ.keys{xs:List (NK×Addr×Value)}{m:List (NK×V)}(I:Inv X pins σ H s):zmQ H xs m->∀x∈xs,zdo X.prog X.w s.heap x.1 x.2.1:=by
 intro h
 induction h with
 | nil=>intro x hx;simp at hx
 | cons h t ih =>
  intro x hx
  rcases yap.mp hx with rfl | hx
  ·exact I.nest h.2.1
  ·exact ih x hx
def Inv.ndict(I:Inv X pins σ H s){a:Addr}{xs:List (NK×Addr×Value)}{m:List (NK×V)}(h:H a=some (.ext (DN X.prog X.w a xs)))(e:zmQ H xs m):s.heap.DictOfH (zdd X.prog X.w) a xs/\(a == sysModules)=false:=by
 obtain ⟨⟨o,es,ep,h1,h2,h3,h4,h5,h6⟩,_⟩:=I.hok a _ h;exact ⟨⟨o,es,ep,h1,h2,h3,h4,e.keys I,h5⟩,h6⟩
def zdB{xs:List (NK×Addr×Value)}{m:List (NK×V)}(e:zmQ H xs m)(k:NK):(m.lookup k=none/\atKey xs k=none)\/∃c p,m.lookup k=some c/\atKey xs k=some p/\zaJ c p.2:=by
 induction e with
 | nil=>exact .inl ⟨rfl,rfl⟩
 | @cons x p l1 l2 h t ih =>
  obtain ⟨h1,h2,h3⟩:=h
  by_cases hk:x.1=k
  ·refine .inr ⟨p.2,x.2,?_,?_,h3⟩
   ·obtain ⟨pk,pc⟩:=p;simp only at h1;subst h1;rw [yaz,hk];simp
   ·simp [atKey,hk]
  ·have hk':¬ p.1=k:=by rw [<-h1];exact hk
   have e1:List.lookup k (p::l2)=List.lookup k l2:=by
    obtain ⟨pk,pc⟩:=p;rw [yaz]
    have:(k == pk)=false:=by
     rw [ya2];exact fun z=>hk' z.symm
    rw [this]
   have e2:atKey (x::l1) k=atKey l1 k:=by simp [atKey,ybx,hk]
   rw [e1,e2];exact ih
def zm8(hu:X.A.units+16<cLine):OpR X (compareOp .NotIn) (fun x y H Q=>∃kb a k xs m,x=.ref kb/\y=.ref a/\zhi H kb k/\H a=some (.ext (DN X.prog X.w a xs))/\zmQ H xs m/\Q (.bl (m.lookup k).isNone) H):=by
 intro pins s σ H x y v u Q I rx ry h;obtain ⟨kb,a,k,xs,m,rfl,rfl,hk,hx,he,q⟩:=h;cases rx;cases ry;obtain ⟨hm,hd⟩:=I.ndict hx he;refine wpAny_notIn_heap (knd:=zdd X.prog X.w) (k:=k) (by show X.A.units+1+8<cLine;omega) (I.nest hk) hd hm ⟨.bl _,H,I.tok _,?_,q⟩
 rcases zdB he k with ⟨e1,e2⟩ | ⟨c,p,e1,e2,_⟩<;>rw [e1,e2]<;>rfl
def zrH(hu:X.A.units+16<cLine):IxR X (fun x y H Q=>∃a kb k xs m c,x=.ref a/\y=.ref kb/\zhi H kb k/\H a=some (.ext (DN X.prog X.w a xs))/\zmQ H xs m/\m.lookup k=some c/\Q c H):=by
 intro value slice pins s σ H x y v u Q I rx ry h hs;obtain ⟨a,kb,k,xs,m,c,rfl,rfl,hk,hx,he,hl,q⟩:=h;cases rx;cases ry;obtain ⟨hm,hd⟩:=I.ndict hx he
 rcases zdB he k with ⟨e1,_⟩ | ⟨c',p,e1,e2,r⟩
 ·rw [e1] at hl;cases hl
 ·rw [e1] at hl;cases hl;exact yck (x:=p.2) hm.typeIs slot_dict_getitem.lookup (wpAny_getItem_heap (knd:=zdd X.prog X.w) (k:=k) (by show X.A.units+1+8<cLine;omega) (I.nest hk) hm e2 ⟨rfl,c,H,I.tok _,r,q⟩) hs
def zn0(hu:X.A.units+16<cLine):zuH X (fun o i v H Q=>∃a kb k xs m,o=.ref a/\i=.ref kb/\zhi H kb k/\H a=some (.ext (DN X.prog X.w a xs))/\zmQ H xs m/\m.lookup k=none/\m.length<=1000000/\∀u,zaJ v u->Q (upd H a (.ext (DN X.prog X.w a (xs++[(k,kb,u)]))))):=by
 intro pins s σ H o i v ov iv u Q I ro ri rv h;obtain ⟨a,kb,k,xs,m,rfl,rfl,hk,hx,he,hl,hz,q⟩:=h;cases ro;cases ri;obtain ⟨hm,hd⟩:=I.ndict hx he;have hlen:xs.length=m.length:=Paired.length he
 have e2:atKey xs k=none:=by
  rcases zdB he k with ⟨_,e2⟩ | ⟨c',p,e1,_,_⟩
  ·exact e2
  ·rw [e1] at hl;cases hl
 refine wpAny_setItem_heap (knd:=zdd X.prog X.w) (k:=k) (by show X.A.units+1+8<cLine;omega) (I.nest hk) hm (fun h' hm' sb=>?_) (by rw [hlen];exact yao hz (by decide));rw [storedH_new e2] at hm';obtain ⟨o,es,ep,g1,g2,g3,g4,g5,g6⟩:=hm';have dn:DN X.prog X.w a (xs++[(k,kb,u)]) h':=⟨o,es,ep,g1,g2,g3,g4,g6,hd⟩;refine ⟨upd H a (.ext (DN X.prog X.w a (xs++[(k,kb,u)]))),?_,q u rv⟩;exact I.write (x:=a) (e:=a) (by rw [hx];trivial) (.inl rfl) (fun b o hb z=>(sb.2 b hb).trans z) ⟨_,g1⟩ ⟨dn,⟨_,g1⟩,zh1⟩
noncomputable def ztf(P:Program)(w:World):TE:=fun _ H Q=>∀p,H p=none->Q (.ref p) (upd H p (.ext (DN P w p [])))
def zoq{pos:Pos}:PE X (.Dict [] [] pos) (ztf X.prog X.w):=fun pins s σ H Q I h=>by
 have big:sysModules<s.heap.objs.size:=Nat.lt_trans (show sysModules<mainGlobals by decide) (I.mod.glob.keeps I.bk).lt;have hne:(s.heap.objs.size == sysModules)=false:=ya2.mpr (Ne.symm (yar big));have dn:DN X.prog X.w s.heap.objs.size [] (s.heap.push { cls:=.type "dict",data:=.dict #[] }):=⟨_,#[],0,yam _ rfl,⟨rfl,rfl,rfl⟩,rfl,rfl,List.nodup_nil,hne⟩;refine wpAny_Dict_empty ⟨.ref s.heap.objs.size,upd H s.heap.objs.size (.ext (DN X.prog X.w s.heap.objs.size [])),?_,rfl,h _ (I.hok.fresh (yal _))⟩;exact I.laid (a:=s.heap.objs.size) (t':=s.toks) (fun _ _ q=>yae _ q) (yal _) ⟨dn,⟨_,yam _ rfl⟩,zh1⟩
end
end L2
namespace L2
open PySem PySem.Spec PyProof.Rows
section
variable{κ:Type}[DecidableEq κ]
noncomputable def zlc(kvs:List (κ×V))(k:κ):Option V:=(kvs.find? fun kv=>decide (kv.1=k)).map (·.2)
noncomputable def zlr(kvs:List (κ×V))(k:κ)(v:V):List (κ×V) :=
 if (kvs.any fun kv=>decide (kv.1=k))=true then kvs.map (fun kv=>if kv.1=k then (kv.1,v) else kv) else kvs++[(k,v)]
def zhn{p:κ×V}{r:List (κ×V)}{k:κ}(e:p.1=k):zlc (p::r) k=some p.2:=by simp [zlc,ybx,e]
def zho{p:κ×V}{r:List (κ×V)}{k:κ}(e:¬ p.1=k):zlc (p::r) k=zlc r k:=by simp [zlc,ybx,e]
def zgZ(kvs:List (κ×V))(k:κ)(v:V):(zlr kvs k v).length<=kvs.length+1:=by
 unfold zlr;split
 ·rw [yaf];omega
 ·rw [yaw,yaj,List.length_nil];omega
theorem ziO.getD{o:Option V}{u:Option Value}{d:V}{d':Value}(r:ziO o u)(rd:zaJ d d'):zaJ (o.getD d) (u.getD d'):=by
 cases o with
 | none=>cases u with
  | none=>exact rd
  | some _=>exact (show False from r).elim
 | some _=>cases u with
  | none=>exact (show False from r).elim
  | some _=>exact r
end
def zrB{P:Program}{w:World}{k:Key}{u:Value}(r:zaJ (kV k) u):(zb1 P w).is k u=true:=by
 cases k with
 | inl i=>obtain ⟨t,e⟩:=(show ∃t,u=Value.int i t from r);subst e;exact zgY P w i t
 | inr x=>obtain ⟨t,e⟩:=(show ∃t,u=Value.str x t from r);subst e;exact zgX P w x t
section
variable{P:Program}{w:World}{H:Hp}{h:Heap}{a:Addr}
def ztw{u:HO}(ok:HOk P w H h)(e:Rd H a u):zba P w H h a u:=e.ok ok
end
section
variable{X:Cx}{pins:Z3}{σ:St}{H:Hp}{s:Shared}{a:Addr}{y v:V}{u r:Value}{o:Option V}{A:Around}{E:Z5}
def Inv.big(I:Inv X pins σ H s):sysModules<s.heap.objs.size:=by
 have h:mainGlobals<s.heap.objs.size:=(I.mod.glob.keeps I.bk).lt;exact Nat.lt_trans (by decide) h
def zpc{h':Heap}{t':Nat}{ob:HO}(I:Inv X pins σ H s)(mu:Mut (H a))(hs:Heap.SameBut a s.heap h')(he:∃q,h'.get? a=some q)(new:zba X.prog X.w (upd H a ob) h' a ob) :
  Inv X pins σ (upd H a ob) { s with heap:=h',toks:=t' } :=
 I.write (x:=a) (e:=a) mu (.inl rfl) (fun b q hb z=>(hs.2 b hb).trans z) he new
end
section
variable{X:Cx}{pins:Z3}{σ:St}{H:Hp}{s:Shared}{a:Addr}{kvs:List (Key×V)}{k:Key}{u:Value}{A:Around}{E:Z5}
end
section
variable{X:Cx}{o i e value:Expr}{pos pos' tpos:Pos}{td ty tv:TE}
end
section
variable{X:Cx}{pos:Pos}
end
structure M2(X:Cx)(o:Expr)(m:Str)(apos:Pos)(e f:Expr)(cpos:Pos):Prop where
 base:attributeBase o m X.env (eval o X.env)=eval o X.env
 few:((backTo cpos (starEach [e,f] X.env)).all (fun x=>!x.1)&&(backToKw cpos (keywordEach [] X.env)).all (fun x=>x.1.isSome)
  && decide (([e,f]:List Expr).length+([]:List Keyword).length+(if ([]:List Keyword).isEmpty then 0 else 1)<30))=true
 line:(apos.endLine == cpos.line)=true
 trees:backTo cpos (starEach [e,f] X.env)=[(false,eval e X.env),(false,eval f X.env)]
section
variable{X:Cx}{pins:Z3}{σ:St}{H:Hp}{s:Shared}{a:Addr}{y d:V}{u r:Value}{o:Option V}{A:Around}{E:Z5}
end
section
variable{X:Cx}{o e f:Expr}{apos cpos:Pos}{td ty tx:TE}
end
section
variable{X:Cx}{pins:Z3}{σ:St}{H:Hp}{s:Shared}{a:Addr}{kvs:List (Key×V)}{A:Around}{E:Z5}
end
section
variable{X:Cx}{pins:Z3}{σ:St}{H:Hp}{s:Shared}{a:Addr}{y:V}{u:Value}{A:Around}{E:Z5}
end
end L2
namespace S2
open PySem PySem.Spec PyProof.Rows L2
noncomputable abbrev St:=L2.St
inductive D where
 | non | bl (b:Bool) | int (i:Int) | str (x:Str) | tup (l:List D) | lst (l:List D) | dic (l:List (D×D)) | ref (n:Nat) | exc (c:Str) | scr (l:List Int)
inductive Root where
 | slot (i:Nat) | fld (n:Nat) (f:Str) | obj (n:Nat) | far
 deriving DecidableEq
noncomputable abbrev Ow:=Addr->Option Root
structure Cf where
 ad:Str->Addr
 K:PySem.W.Frag
 P:Program
 wo:PySem.World
noncomputable instance:CoeFun Cf (fun _=>Str->Addr):=⟨Cf.ad⟩
structure Wd where
 H:Hp
 ow:Ow
 mu:List Addr
noncomputable def zxL:Key->D | .inl i=>.int i | .inr x=>.str x
noncomputable def zxJ(k:List Key):D:=.tup (k.map zxL)
noncomputable def zwL(ds:List (D×D)):D:=.dic ((.exc "",.non)::ds)
noncomputable def kvI(ps:List (Int×Int)):List (Key×V):=ps.map fun x=>(.inl x.1,.int x.2)
noncomputable def dsI(ps:List (Int×Int)):List (D×D):=ps.map fun x=>(.int x.1,.int x.2)
noncomputable def zcY(ps:List (Int×Int)):D:=.dic ((.non,.non)::dsI ps)
mutual
inductive Shd(cl:Cf)(w:Wd):V->D->Prop
 | non:Shd cl w .non .non
 | bl (b:Bool):Shd cl w (.bl b) (.bl b)
 | int (i:Int):Shd cl w (.int i) (.int i)
 | str (x:Str):Shd cl w (.str x) (.str x)
 | tup {a:Addr} {xs:List V} {ds:List D}:w.H a=some (.tup xs)->w.ow a=none->Shds cl w xs ds->Shd cl w (.ref a) (.tup ds)
 | lst {a:Addr} {xs:List V} {ds:List D}:w.H a=some (.lst xs)->w.ow a=none->Shds cl w xs ds->Shd cl w (.ref a) (.lst ds)
 | dicK {a:Addr} {kvs:List (Key×V)} {ds:List (D×D)}:w.H a=some (.dK kvs)->w.ow a=none->ShdK cl w kvs ds->Shd cl w (.ref a) (.dic ds)
 | dicT {a:Addr} {kvs:List (List Key×V)} {ds:List (D×D)}:w.H a=some (.dT kvs)->w.ow a=none->ShdT cl w kvs ds->Shd cl w (.ref a) (.dic ((.exc "",.non)::ds))
 | dicN {a:Addr} {ps:List (Int×Int)}:w.H a=some (.dK (kvI ps))->w.ow a=none->Shd cl w (.ref a) (.dic ((.non,.non)::dsI ps))
 | ref {n:Nat} {a:Addr}:w.mu[n]?=some a->Shd cl w (.ref a) (.ref n)
 | scr {a:Addr} {o:Obj} {l:List Int}:w.H a=some (.frz o (.lst (l.map V.int)))->w.ow a=none->Shd cl w (.ref a) (.scr l)
 | scrK {a:Addr} {l:List Int}:(∀H:Hp,SqL cl.K H a (l.map V.int))->Shd cl w (.ref a) (.scr l)
 | exc {a:Addr} {c:Str} {ob:Obj}:w.H a=some (.frz ob (.own a))->w.ow a=none->ob.cls=.ref (cl c)->Shd cl w (.ref a) (.exc c)
inductive Shds(cl:Cf)(w:Wd):List V->List D->Prop
 | nil:Shds cl w [] []
 | cons {v:V} {d:D} {vs:List V} {ds:List D}:Shd cl w v d->Shds cl w vs ds->Shds cl w (v::vs) (d::ds)
inductive ShdK(cl:Cf)(w:Wd):List (Key×V)->List (D×D)->Prop
 | nil:ShdK cl w [] []
 | consI {i:Int} {v:V} {d:D} {vs:List (Key×V)} {ds:List (D×D)}:Shd cl w v d->ShdK cl w vs ds->ShdK cl w ((.inl i,v)::vs) ((.int i,d)::ds)
 | consS {x:Str} {v:V} {d:D} {vs:List (Key×V)} {ds:List (D×D)}:Shd cl w v d->ShdK cl w vs ds->ShdK cl w ((.inr x,v)::vs) ((.str x,d)::ds)
inductive ShdT(cl:Cf)(w:Wd):List (List Key×V)->List (D×D)->Prop
 | nil:ShdT cl w [] []
 | cons {k:List Key} {v:V} {d:D} {vs:List (List Key×V)} {ds:List (D×D)}:Shd cl w v d->ShdT cl w vs ds->ShdT cl w ((k,v)::vs) ((zxJ k,d)::ds)
end
structure Fut(w w':Wd):Prop where
 keep:∀a o,w.H a=some o->w.ow a=none->w'.H a=some o/\w'.ow a=none
 mu:∀(n:Nat) (a:Addr),w.mu[n]?=some a->w'.mu[n]?=some a
def Fut.refl(w:Wd):Fut w w:=⟨fun _ _ h k=>⟨h,k⟩,fun _ _ h=>h⟩
def Fut.trans{w w1 w2:Wd}(a:Fut w w1)(b:Fut w1 w2):Fut w w2:=⟨fun c o h k=>b.keep c o (a.keep c o h k).1 (a.keep c o h k).2,fun n c h=>b.mu n c (a.mu n c h)⟩
mutual
theorem Shd.up{cl:Cf}{w w':Wd}(f:Fut w w'):∀{v:V} {d:D},Shd cl w v d->Shd cl w' v d
 | _,_,.non=>.non
 | _,_,.bl b=>.bl b
 | _,_,.int i=>.int i
 | _,_,.str x=>.str x
 | _,_,.tup e k r=>.tup (f.keep _ _ e k).1 (f.keep _ _ e k).2 (Shds.up f r)
 | _,_,.lst e k r=>.lst (f.keep _ _ e k).1 (f.keep _ _ e k).2 (Shds.up f r)
 | _,_,.dicK e k r=>.dicK (f.keep _ _ e k).1 (f.keep _ _ e k).2 (ShdK.up f r)
 | _,_,.dicT e k r=>.dicT (f.keep _ _ e k).1 (f.keep _ _ e k).2 (ShdT.up f r)
 | _,_,.dicN e k=>.dicN (f.keep _ _ e k).1 (f.keep _ _ e k).2
 | _,_,.ref e=>.ref (f.mu _ _ e)
 | _,_,.scr e k=>.scr (f.keep _ _ e k).1 (f.keep _ _ e k).2
 | _,_,.scrK h=>.scrK h
 | _,_,.exc e k h=>.exc (f.keep _ _ e k).1 (f.keep _ _ e k).2 h
theorem Shds.up{cl:Cf}{w w':Wd}(f:Fut w w'):∀{vs:List V} {ds:List D},Shds cl w vs ds->Shds cl w' vs ds
 | _,_,.nil=>.nil
 | _,_,.cons r t=>.cons (Shd.up f r) (Shds.up f t)
theorem ShdK.up{cl:Cf}{w w':Wd}(f:Fut w w'):∀{vs:List (Key×V)} {ds:List (D×D)},ShdK cl w vs ds->ShdK cl w' vs ds
 | _,_,.nil=>.nil
 | _,_,.consI r t=>.consI (Shd.up f r) (ShdK.up f t)
 | _,_,.consS r t=>.consS (Shd.up f r) (ShdK.up f t)
theorem ShdT.up{cl:Cf}{w w':Wd}(f:Fut w w'):∀{vs:List (List Key×V)} {ds:List (D×D)},ShdT cl w vs ds->ShdT cl w' vs ds
 | _,_,.nil=>.nil
 | _,_,.cons r t=>.cons (Shd.up f r) (ShdT.up f t)
end
section
variable{cl:Cf}{w:Wd}
theorem Shds.length:∀{vs:List V} {ds:List D},Shds cl w vs ds->vs.length=ds.length
 | _,_,.nil=>rfl
 | _,_,.cons _ t=>by rw [yaj,yaj,Shds.length t]
theorem Shds.get:∀{vs:List V} {ds:List D},Shds cl w vs ds->∀{i:Nat} {v:V},vs[i]?=some v->∃d,ds[i]?=some d/\Shd cl w v d
 | _,_,.nil,i,v,e=>by simp at e
 | _,_,.cons r _,0,v,e=>by simp at e;subst e;exact ⟨_,rfl,r⟩
 | _,_,.cons _ t,i+1,v,e=>by
  obtain ⟨d,h1,h2⟩:=Shds.get t (i:=i) (v:=v) (by simpa using e);exact ⟨d,by simpa using h1,h2⟩
theorem Shds.at:∀{vs:List V} {ds:List D},Shds cl w vs ds->∀{i:Nat} {d:D},ds[i]?=some d->∃v,vs[i]?=some v/\Shd cl w v d
 | _,_,.nil,i,v,e=>by simp at e
 | _,_,.cons r _,0,v,e=>by simp at e;subst e;exact ⟨_,rfl,r⟩
 | _,_,.cons _ t,i+1,v,e=>by
  obtain ⟨d,h1,h2⟩:=Shds.at t (i:=i) (d:=v) (by simpa using e);exact ⟨d,by simpa using h1,h2⟩
theorem Shds.append:∀{vs ws:List V} {ds es:List D},Shds cl w vs ds->Shds cl w ws es->Shds cl w (vs++ws) (ds++es)
 | _,_,_,_,.nil,s=>s
 | _,_,_,_,.cons r t,s=>.cons r (Shds.append t s)
theorem Shds.take:∀{vs:List V} {ds:List D} (n:Nat),Shds cl w vs ds->Shds cl w (vs.take n) (ds.take n)
 | _,_,0,_=>.nil
 | _,_,_+1,.nil=>.nil
 | _,_,n+1,.cons r t=>.cons r (Shds.take n t)
theorem Shds.drop:∀{vs:List V} {ds:List D} (n:Nat),Shds cl w vs ds->Shds cl w (vs.drop n) (ds.drop n)
 | _,_,0,s=>s
 | _,_,_+1,.nil=>.nil
 | _,_,n+1,.cons _ t=>Shds.drop n t
theorem Shds.set{v:V}{d:D}(r:Shd cl w v d):∀{vs:List V} {ds:List D} (i:Nat),Shds cl w vs ds->Shds cl w (vs.set i v) (ds.set i d)
 | _,_,_,.nil=>.nil
 | _,_,0,.cons _ t=>.cons r t
 | _,_,i+1,.cons q t=>.cons q (Shds.set r i t)
theorem Shds.flat{vs:List V}{ds:List D}(h:Shds cl w vs ds):∀n:Nat,Shds cl w (List.replicate n vs).flatten (List.replicate n ds).flatten
 | 0=>.nil
 | n+1=>by
  rw [ybg,ybg,ybB,ybB];exact Shds.append h (Shds.flat h n)
end
inductive Top(cl:Cf)(w:Wd):HO->D->Prop
 | lst {xs:List V} {ds:List D}:Shds cl w xs ds->Top cl w (.lst xs) (.lst ds)
 | dicK {kvs:List (Key×V)} {ds:List (D×D)}:ShdK cl w kvs ds->Top cl w (.dK kvs) (.dic ds)
 | dicT {kvs:List (List Key×V)} {ds:List (D×D)}:ShdT cl w kvs ds->Top cl w (.dT kvs) (.dic ((.exc "",.non)::ds))
 | dicN {ps:List (Int×Int)}:Top cl w (.dK (kvI ps)) (.dic ((.non,.non)::dsI ps))
theorem Top.up{cl:Cf}{w w':Wd}(f:Fut w w'){o:HO}{d:D}:Top cl w o d->Top cl w' o d
 | .lst h=>.lst (h.up f)
 | .dicK h=>.dicK (h.up f)
 | .dicT h=>.dicT (h.up f)
 | .dicN=>.dicN
noncomputable def zia(cl:Cf)(w:Wd)(r:Root):Bool->V->D->Prop
 | false,v,d=>Shd cl w v d
 | true,v,d=>∃a o,v=.ref a/\w.ow a=some r/\w.H a=some o/\Top cl w o d
theorem zia.keep{cl:Cf}{w w':Wd}(f:Fut w w'){r:Root}(k:∀a o,w.H a=some o->w.ow a=some r->w'.H a=some o/\w'.ow a=some r):∀{b:Bool} {v:V} {d:D},zia cl w r b v d->zia cl w' r b v d
 | false,_,_,h=>Shd.up f h
 | true,_,_,⟨a,o,e,h1,h2,t⟩=>⟨a,o,e,(k a o h2 h1).2,(k a o h2 h1).1,t.up f⟩
noncomputable def oDn:Option Int->D | none=>.non | some i=>.int i
noncomputable def nkD(k:NK):D:=.tup [.int k.1,.tup (k.2.map oDn)]
inductive ShdN(cl:Cf)(w:Wd):List (NK×V)->List (D×D)->Prop
 | nil:ShdN cl w [] []
 | cons {k:NK} {v:V} {d:D} {m:List (NK×V)} {ds:List (D×D)}:Shd cl w v d->ShdN cl w m ds->ShdN cl w ((k,v)::m) ((nkD k,d)::ds)
theorem ShdN.up{cl:Cf}{w w':Wd}(f:Fut w w'):∀{m:List (NK×V)} {ds:List (D×D)},ShdN cl w m ds->ShdN cl w' m ds
 | _,_,.nil=>.nil
 | _,_,.cons r t=>.cons (r.up f) (ShdN.up f t)
noncomputable def zla(w:Wd)(kb:Addr)(k:NK):Prop:=∃b,(w.H kb=some (.tup [.int k.1,.ref b])/\w.ow kb=none)/\w.H b=some (.tup (k.2.map oV))/\w.ow b=none
def zla.up{w w':Wd}(f:Fut w w'){kb:Addr}{k:NK}(h:zla w kb k):zla w' kb k:=by
 obtain ⟨b,h1,h2⟩:=h;exact ⟨b,f.keep _ _ h1.1 h1.2,f.keep _ _ h2.1 h2.2⟩
def zla.at{w:Wd}{kb:Addr}{k:NK}(h:zla w kb k):zhi w.H kb k:=by
 obtain ⟨b,h1,h2⟩:=h;exact ⟨b,h1.1,h2.1⟩
noncomputable def zid(w:Wd):List (NK×Addr×Value)->List (NK×V)->Prop:=Paired fun (x:NK×Addr×Value) (p:NK×V)=>x.1=p.1/\zla w x.2.1 x.1/\zaJ p.2 x.2.2
theorem zid.up{w w':Wd}(f:Fut w w'):∀{xs:List (NK×Addr×Value)} {m:List (NK×V)},zid w xs m->zid w' xs m
 | _,_,.nil=>.nil
 | _,_,.cons h t=>.cons ⟨h.1,h.2.1.up f,h.2.2⟩ (zid.up f t)
theorem zid.ents{w:Wd}:∀{xs:List (NK×Addr×Value)} {m:List (NK×V)},zid w xs m->zmQ w.H xs m
 | _,_,.nil=>.nil
 | _,_,.cons h t=>.cons ⟨h.1,h.2.1.at,h.2.2⟩ (zid.ents t)
theorem zid.snoc{w:Wd}{x:NK×Addr×Value}{p:NK×V}(h:x.1=p.1/\zla w x.2.1 x.1/\zaJ p.2 x.2.2):∀{xs:List (NK×Addr×Value)} {m:List (NK×V)},zid w xs m->zid w (xs++[x]) (m++[p])
 | _,_,.nil=>.cons h .nil
 | _,_,.cons h' t=>.cons h' (zid.snoc h t)
theorem ShdN.snoc{cl:Cf}{w:Wd}{k:NK}{v:V}{d:D}(h:Shd cl w v d):∀{m:List (NK×V)} {ds:List (D×D)},ShdN cl w m ds->ShdN cl w (m++[(k,v)]) (ds++[(nkD k,d)])
 | _,_,.nil=>.cons h .nil
 | _,_,.cons r t=>.cons r (ShdN.snoc h t)
noncomputable def zyC(cl:Cf)(w:Wd)(r:Root)(v:V)(d:D):Prop:=∃a xs m ds,v=.ref a/\w.ow a=some r/\w.H a=some (.ext (DN cl.P cl.wo a xs))/\zid w xs m/\ShdN cl w m ds/\d=.dic ds
noncomputable def zhj(cl:Cf)(w:Wd)(r:Root)(own:Bool)(v:V)(d:D):Prop:=(own=false/\Shd cl w v d)\/(own=true/\zyC cl w r v d)
def zhj.keep{cl:Cf}{w w':Wd}(f:Fut w w'){r:Root}(k:∀a o,w.H a=some o->w.ow a=some r->w'.H a=some o/\w'.ow a=some r){b:Bool}{v:V}{d:D}(h:zhj cl w r b v d):zhj cl w' r b v d:=by
 rcases h with ⟨e,h⟩ | ⟨e,a,xs,m,ds,e1,e2,e3,e4,e5,e6⟩
 ·exact .inl ⟨e,h.up f⟩
 ·exact .inr ⟨e,a,xs,m,ds,e1,(k a _ e3 e2).2,(k a _ e3 e2).1,e4.up f,e5.up f,e6⟩
structure Ob where
 cls:Str
 fs:List (Str×Bool×D)
noncomputable abbrev Sto:=List Ob
noncomputable def zcC(cl:Cf)(w:Wd)(n:Nat):List (Str×V)->List (Str×Bool×D)->Prop:=Paired fun p q=>p.1=q.1/\zhj cl w (.fld n q.1) q.2.1 p.2 q.2.2
noncomputable def zsl(cl:Cf)(w:Wd)(n:Nat)(a:Addr)(ob:Ob):Prop:=w.ow a=some (.obj n)/\∃dx fs,w.H a=some (.ins (cl ob.cls) dx fs)/\zcC cl w n fs ob.fs
noncomputable def zrf(n:Nat):Option Root->Prop | some (.obj m)=>m=n | some (.fld m _)=>m=n | _=>False
theorem zcC.keep{cl:Cf}{w w':Wd}(f:Fut w w'){n:Nat}(k:∀a o,w.H a=some o->zrf n (w.ow a)->w'.H a=some o/\w'.ow a=w.ow a):∀{fs:List (Str×V)} {gs:List (Str×Bool×D)},zcC cl w n fs gs->zcC cl w' n fs gs
 | _,_,.nil=>.nil
 | _,_,.cons ⟨e,h⟩ t=>.cons ⟨e,h.keep f fun a o ha hr=>by
   have:=k a o ha (by rw [hr];rfl)
   exact ⟨this.1,this.2.trans hr⟩⟩ (zcC.keep f k t)
theorem zsl.keep{cl:Cf}{w w':Wd}(f:Fut w w'){n:Nat}{a:Addr}{ob:Ob}(k:∀a o,w.H a=some o->zrf n (w.ow a)->w'.H a=some o/\w'.ow a=w.ow a)(h:zsl cl w n a ob):zsl cl w' n a ob:=by
 obtain ⟨h1,dx,fs,h2,h3⟩:=h;have:=k a _ h2 (by rw [h1];rfl);exact ⟨this.2.trans h1,dx,fs,this.1,h3.keep f k⟩
structure Base where
 Fr:Hp
 fw:Ow
structure World'(cl:Cf)(B:Base)(w:Wd)(S:Sto):Prop where
 fr:∀a o,B.Fr a=some o->w.H a=some o/\w.ow a=B.fw a
 own:∀a r,w.ow a=some r->r=.far\/B.Fr a=none
 len:w.mu.length=S.length
 obj:∀(n:Nat) (ob:Ob),S[n]?=some ob->∃a,w.mu[n]?=some a/\zsl cl w n a ob
noncomputable abbrev Env:=List (Option (Bool×D))
structure Rel(cl:Cf)(B:Base)(σ:St)(w:Wd)(ρ:Env)(S:Sto):Prop where
 wd:World' cl B w S
 len:σ.length=ρ.length
 slots:∀(i:Nat) (o:Bool) (d:D),ρ[i]?=some (some (o,d))->∃v,σ[i]?=some (some v)/\zia cl w (.slot i) o v d
structure Grow(w w':Wd):Prop where
 keep:∀a o,w.H a=some o->w'.H a=some o/\w'.ow a=w.ow a
 new:∀a r,w'.ow a=some r->w.H a=none->w.ow a=some r\/r=.far
 mu:w'.mu=w.mu
def Grow.refl(w:Wd):Grow w w:=⟨fun _ _ h=>⟨h,rfl⟩,fun _ _ h _=>.inl h,rfl⟩
def Grow.fut{w w':Wd}(g:Grow w w'):Fut w w':=⟨fun a o h k=>⟨(g.keep a o h).1,(g.keep a o h).2.trans k⟩,fun n a h=>by rw [g.mu];exact h⟩
def World'.grow{cl:Cf}{B:Base}{w w':Wd}{S:Sto}(W:World' cl B w S)(g:Grow w w'):World' cl B w' S where
 fr:=fun a o h=>by
  obtain ⟨h1,h2⟩:=W.fr a o h;exact ⟨(g.keep a o h1).1,(g.keep a o h1).2.trans h2⟩
 own:=fun a r h=>by
  cases e:w.H a with
  | none=>exact (g.new a r h e).elim (W.own a r) .inl
  | some o=>exact W.own a r (by rw [<-(g.keep a o e).2];exact h)
 len:=by rw [g.mu];exact W.len
 obj:=fun n ob h=>by
  obtain ⟨a,e,x⟩:=W.obj n ob h;exact ⟨a,by rw [g.mu];exact e,x.keep g.fut fun a o ha _=>g.keep a o ha⟩
theorem Rel.grow{cl:Cf}{B:Base}{σ:St}{w w':Wd}{ρ:Env}{S:Sto}(R:Rel cl B σ w ρ S)(g:Grow w w'):Rel cl B σ w' ρ S where
 wd:=R.wd.grow g
 len:=R.len
 slots:=fun i o d h=>by
  obtain ⟨v,e,x⟩:=R.slots i o d h;exact ⟨v,e,x.keep g.fut fun a o ha hr=>⟨(g.keep a o ha).1,(g.keep a o ha).2.trans hr⟩⟩
noncomputable def Wd.add(w:Wd)(p:Addr)(o:HO):Wd:=⟨upd w.H p o,fun a=>if a=p then none else w.ow a,w.mu⟩
def zaq{w:Wd}{p:Addr}(h:w.H p=none)(o:HO):Grow w (w.add p o) where
 keep:=fun a u ha=>by
  have n:a≠p:=zam ha h;refine ⟨?_,?_⟩
  ·show upd w.H p o a=_;rw [zag n];exact ha
  ·show (if a=p then none else w.ow a)=_;rw [if_neg n]
 new:=fun a r h1 h2=>by
  have h1':(if a=p then none else w.ow a)=some r:=h1;split at h1'
  ·cases h1'
  ·exact .inl h1'
 mu:=rfl
def zeV{w:Wd}{p:Addr}{o:HO}:(w.add p o).ow p=none:=if_pos rfl
def ziN{w:Wd}{p:Addr}{o:HO}:(w.add p o).H p=some o:=zat
def Shd.newT{cl:Cf}{w:Wd}{p:Addr}{xs:List V}{ds:List D}(h:w.H p=none)(r:Shds cl w xs ds):Shd cl (w.add p (.tup xs)) (.ref p) (.tup ds):=.tup ziN zeV (r.up (zaq h _).fut)
def Shd.newL{cl:Cf}{w:Wd}{p:Addr}{xs:List V}{ds:List D}(h:w.H p=none)(r:Shds cl w xs ds):Shd cl (w.add p (.lst xs)) (.ref p) (.lst ds):=.lst ziN zeV (r.up (zaq h _).fut)
def Shd.newO{cl:Cf}{w:Wd}{p:Addr}{o:HO}{d:D}(h:w.H p=none)(r:Top cl w o d):Shd cl (w.add p o) (.ref p) d:=by
 have g:=(zaq h o).fut
 cases r with
 | lst r=>exact .lst ziN zeV (r.up g)
 | dicK r=>exact .dicK ziN zeV (r.up g)
 | dicT r=>exact .dicT ziN zeV (r.up g)
 | dicN=>exact .dicN ziN zeV
inductive Out(α:Type) where
 | ok (a:α) (S:Sto) | exc (c:Str) (S:Sto) | bad
noncomputable abbrev Fe:=Env->Sto->Out D
inductive Fo where
 | nx (ρ:Env) (S:Sto) | rt (d:D) (S:Sto) | bk (ρ:Env) (S:Sto) | ct (ρ:Env) (S:Sto) | ex (c:Str) (ρ:Env) (S:Sto) | bad
noncomputable abbrev Fs:=Env->Sto->Fo
noncomputable def tE(cl:Cf)(E:St->XK)(f:Fe):TE:=fun σ H Q=>∃B w ρ S,w.H=H/\Rel cl B σ w ρ S/\match f ρ S with
 | .ok d S'=>∀v w',Rel cl B σ w' ρ S'->Fut w w'->Shd cl w' v d->Q v w'.H
 | .exc c S'=>∀w',Rel cl B σ w' ρ S'->Fut w w'->E σ (.ref (cl c)) none w'.H
 | .bad=>False
noncomputable def tN(cl:Cf)(E:St->XK)(f:Fe):TE:=fun σ H Q=>∃B w ρ S,w.H=H/\Rel cl B σ w ρ S/\match f ρ S with
 | .ok d S'=>∀p o w',Rel cl B σ w' ρ S'->Fut w w'->w'.H p=none->Top cl w' o d->Q (.ref p) (upd w'.H p o)
 | .exc c S'=>∀w',Rel cl B σ w' ρ S'->Fut w w'->E σ (.ref (cl c)) none w'.H
 | .bad=>False
noncomputable def Hd(cl:Cf)(σ:St)(ρ:Env)(w:Wd)(v:V)(d:D):Prop:=Shd cl w v d\/∃i:Nat,ρ[i]?=some (some (true,d))/\σ[i]?=some (some v)
noncomputable def tH(cl:Cf)(E:St->XK)(f:Fe):TE:=fun σ H Q=>∃B w ρ S,w.H=H/\Rel cl B σ w ρ S/\match f ρ S with
 | .ok d S'=>∀v w',Rel cl B σ w' ρ S'->Fut w w'->Hd cl σ ρ w' v d->Q v w'.H
 | .exc c S'=>∀w',Rel cl B σ w' ρ S'->Fut w w'->E σ (.ref (cl c)) none w'.H
 | .bad=>False
inductive TopV(cl:Cf)(w:Wd):V->D->Prop
 | sh {v:V} {d:D}:Shd cl w v d->TopV cl w v d
 | ow {a:Addr} {o:HO} {d:D}:w.H a=some o->Top cl w o d->TopV cl w (.ref a) d
def Hd.top{cl:Cf}{B:Base}{σ:St}{ρ:Env}{w:Wd}{S:Sto}{v:V}{d:D}(h:Hd cl σ ρ w v d)(R:Rel cl B σ w ρ S):TopV cl w v d:=by
 rcases h with h | ⟨i,h1,h2⟩
 ·exact .sh h
 ·obtain ⟨v',e,a,o,rfl,_,h3,t⟩:=R.slots i true d h1;rw [h2] at e;cases e;exact .ow h3 t
theorem Hd.up{cl:Cf}{σ:St}{ρ:Env}{w w':Wd}{v:V}{d:D}(f:Fut w w')(h:Hd cl σ ρ w v d):Hd cl σ ρ w' v d:=by
 rcases h with h | h
 ·exact .inl (h.up f)
 ·exact .inr h
def PE.imp{X:Cx}{e:Expr}{t t':TE}(h:PE X e t)(i:∀σ H Q,t' σ H Q->t σ H Q):PE X e t':=fun pins s σ H Q I q=>h pins s σ H Q I (i _ _ _ q)
def ztc{cl:Cf}{E:St->XK}{f:Fe}{σ:St}{H:Hp}{Q:VK}(h:tE cl E f σ H Q):tN cl E f σ H Q:=by
 obtain ⟨B,w,ρ,S,e,R,h⟩:=h;refine ⟨B,w,ρ,S,e,R,?_⟩
 cases hf:f ρ S with
 | ok d S' =>
  rw [hf] at h;intro p o w' R' F' hp t;exact h (.ref p) (w'.add p o) (R'.grow (zaq hp o)) (F'.trans (zaq hp o).fut) (Shd.newO hp t)
 | exc c S'=>rwa [hf] at h
 | bad=>rwa [hf] at h
def ztb{cl:Cf}{E:St->XK}{f:Fe}{σ:St}{H:Hp}{Q:VK}(h:tH cl E f σ H Q):tE cl E f σ H Q:=by
 obtain ⟨B,w,ρ,S,e,R,h⟩:=h;refine ⟨B,w,ρ,S,e,R,?_⟩
 cases hf:f ρ S with
 | ok d S' =>
  rw [hf] at h;intro v w' R' F' t;exact h v w' R' F' (.inl t)
 | exc c S'=>rwa [hf] at h
 | bad=>rwa [hf] at h
end S2
namespace S2
open PySem PySem.Spec PyProof.Rows L2
noncomputable def Out.bind{α β:Type}(o:Out α)(k:α->Sto->Out β):Out β:=match o with | .ok a S=>k a S | .exc c S=>.exc c S | .bad=>.bad
noncomputable def Out.of{α:Type}(o:Option α)(S:Sto):Out α:=match o with | some a=>.ok a S | none=>.bad
@[simp] def Out.bind_ok{α β:Type}(a:α)(S:Sto)(k:α->Sto->Out β):(Out.ok a S).bind k=k a S:=rfl
@[simp] def Out.bind_exc{α β:Type}(c:Str)(S:Sto)(k:α->Sto->Out β):(Out.exc c S:Out α).bind k=.exc c S:=rfl
@[simp] def Out.bind_bad{α β:Type}(k:α->Sto->Out β):(Out.bad:Out α).bind k=.bad:=rfl
@[simp] def Out.of_some{α:Type}(a:α)(S:Sto):Out.of (some a) S=.ok a S:=rfl
noncomputable def zac(i:Nat):Fe:=fun ρ S=>match ρ[i]? with | some (some (false,d))=>.ok d S | _=>.bad
noncomputable def zaj(i:Nat):Fe:=fun ρ S=>match ρ[i]? with | some (some (_,d))=>.ok d S | _=>.bad
noncomputable def zal(d:D):Fe:=fun _ S=>.ok d S
noncomputable def eUn(g:D->Option D)(f:Fe):Fe:=fun ρ S=>(f ρ S).bind fun a S1=>Out.of (g a) S1
noncomputable def zai(g:D->D->Option D)(f h:Fe):Fe:=fun ρ S=>(f ρ S).bind fun a S1=>(h ρ S1).bind fun b S2=>Out.of (g a b) S2
noncomputable def isB:D->Option Bool | .bl b=>some b | _=>none
noncomputable def eIf(c f h:Fe):Fe:=fun ρ S=>(c ρ S).bind fun d S1=>match isB d with | some true=>f ρ S1 | some false=>h ρ S1 | none=>.bad
noncomputable def zhb(f h:Fe):Fe:=fun ρ S=>(f ρ S).bind fun d S1=>match isB d with | some true=>h ρ S1 | some false=>.ok (.bl false) S1 | none=>.bad
noncomputable def eOr(f h:Fe):Fe:=fun ρ S=>(f ρ S).bind fun d S1=>match isB d with | some true=>.ok (.bl true) S1 | some false=>h ρ S1 | none=>.bad
noncomputable def zfl:D->Option D | .bl b=>some (.bl (!b)) | _=>none
noncomputable def zae:List Fe->Env->Sto->Out (List D)
 | [],_,S=>.ok [] S
 | f::fs,ρ,S=>(f ρ S).bind fun d S1=>(zae fs ρ S1).bind fun ds S2=>.ok (d::ds) S2
noncomputable def zaX(n:Nat):Bool:=decide (n<=100000)
noncomputable def zg9(fs:List Fe):Fe:=fun ρ S=>(zae fs ρ S).bind fun ds S1=>if zaX ds.length then .ok (.tup ds) S1 else .bad
noncomputable def zkD(fs:List Fe):Fe:=fun ρ S=>(zae fs ρ S).bind fun ds S1=>if zaX ds.length then .ok (.lst ds) S1 else .bad
noncomputable def zar(g:List D->Option D)(fs:List Fe):Fe:=fun ρ S=>(zae fs ρ S).bind fun ds S1=>Out.of (g ds) S1
def zaY{n:Nat}(h:zaX n=true):n<=sizeLine:=yao (yah h) (by decide)
noncomputable def zbf:Expr->Bool | .Starred _ _=>false | _=>true
def za1{e:Expr}{es:List Expr}{env:PySem.Env}(h:zbf e=true):starEach (e::es) env=(false,eval e env)::starEach es env:=by
 cases e<;>first | rfl | cases h
theorem za4{pos:Pos}{env:PySem.Env}:∀{es:List Expr},es.all zbf=true->(backTo pos (starEach es env)).any (·.1)=false
 | [],_=>rfl
 | e::es,h=>by
  rw [ybp,yab] at h;rw [za1 h.1];show (false||(backTo pos (starEach es env)).any (·.1))=false;rw [za4 h.2];rfl
theorem zf4{pos:Pos}{env:PySem.Env}:∀{es:List Expr},es.all zbf=true->(backTo pos (starEach es env)).all (fun x=>!x.1)=true
 | [],_=>rfl
 | e::es,h=>by
  rw [ybp,yab] at h;rw [za1 h.1];show (true&&(backTo pos (starEach es env)).all (fun x=>!x.1))=true;rw [zf4 h.2];rfl
def zkx{pos:Pos}{env:PySem.Env}{es:List Expr}(h:es.all zbf=true)(hl:es.length<30):((backTo pos (starEach es env)).all (fun x=>!x.1)&&(backToKw pos (keywordEach [] env)).all (fun x=>x.1.isSome)
   && decide (es.length+([]:List Keyword).length+(if ([]:List Keyword).isEmpty then 0 else 1)<30))=true:=by
 rw [zf4 h];show (true&&true&&decide (es.length+0+0<30))=true;simpa using hl
noncomputable def Hds(cl:Cf)(σ:St)(ρ:Env)(w:Wd):List V->List D->Prop:=Paired (Hd cl σ ρ w)
noncomputable def zk2(cl:Cf)(w:Wd):List V->List D->Prop:=Paired (TopV cl w)
theorem Hds.top{cl:Cf}{B:Base}{σ:St}{ρ:Env}{w:Wd}{S:Sto}(R:Rel cl B σ w ρ S):∀{vs:List V} {ds:List D},Hds cl σ ρ w vs ds->zk2 cl w vs ds
 | _,_,.nil=>.nil
 | _,_,.cons h t=>.cons (h.top R) (Hds.top R t)
noncomputable def tAs(cl:Cf)(E:St->XK)(fs:List Fe):TA:=fun σ H Q=>∃B w ρ S,w.H=H/\Rel cl B σ w ρ S/\match zae fs ρ S with
 | .ok ds S'=>∀vs w',Rel cl B σ w' ρ S'->Fut w w'->Shds cl w' vs ds->Q vs w'.H
 | .exc c S'=>∀w',Rel cl B σ w' ρ S'->Fut w w'->E σ (.ref (cl c)) none w'.H
 | .bad=>False
noncomputable def tHs(cl:Cf)(E:St->XK)(fs:List Fe):TA:=fun σ H Q=>∃B w ρ S,w.H=H/\Rel cl B σ w ρ S/\match zae fs ρ S with
 | .ok ds S'=>∀vs w',Rel cl B σ w' ρ S'->Fut w w'->Hds cl σ ρ w' vs ds->Q vs w'.H
 | .exc c S'=>∀w',Rel cl B σ w' ρ S'->Fut w w'->E σ (.ref (cl c)) none w'.H
 | .bad=>False
def PA.imp{X:Cx}{es:List Expr}{t t':TA}(h:PA X es t)(i:∀σ H Q,t' σ H Q->t σ H Q):PA X es t':=fun pos pins s σ H Q I q=>h pos pins s σ H Q I (i _ _ _ q)
def PT.imp{X:Cx}{e:Expr}{t t':TT}(h:PT X e t)(i:∀σ H Q,t' σ H Q->t σ H Q):PT X e t':=fun pins s σ H Q I q=>h pins s σ H Q I (i _ _ _ q)
section
variable{X:Cx}{cl:Cf}{E:St->XK}{a b c e:Expr}{f h g:Fe}{pos:Pos}
def zqn{i:Nat}{x:Str}(hN:X.N[i]?=some x)(hv:Vis X.env.scope x)(hd:(x == ("__debug__":Str))=false)(hcd:(x == ("__classdict__":Str))=false):PE X (.Name x pos) (tE cl E (zac i)):=by
 refine PE.imp (zca hN hv hd hcd) ?_;rintro σ H Q ⟨B,w,ρ,S,rfl,R,q⟩;unfold zac at q;split at q
 ·rename_i o d S' hm;split at hm
  ·rename_i d' he;cases hm;obtain ⟨v,e,r⟩:=R.slots i false d he;exact ⟨v,e,q v w R (Fut.refl _) r⟩
  ·cases hm
 ·rename_i hm;split at hm<;>cases hm
 ·exact q.elim
def zqx{i:Nat}{x:Str}(hN:X.N[i]?=some x)(hv:Vis X.env.scope x)(hd:(x == ("__debug__":Str))=false)(hcd:(x == ("__classdict__":Str))=false):PE X (.Name x pos) (tH cl E (zaj i)):=by
 refine PE.imp (zca hN hv hd hcd) ?_;rintro σ H Q ⟨B,w,ρ,S,rfl,R,q⟩;unfold zaj at q;split at q
 ·rename_i o d S' hm;split at hm
  ·rename_i b d' he;cases hm;obtain ⟨v,e,r⟩:=R.slots i b d he;refine ⟨v,e,q v w R (Fut.refl _) ?_⟩
   cases b with
   | false=>exact .inl r
   | true=>exact .inr ⟨i,he,e⟩
  ·cases hm
 ·rename_i hm;split at hm<;>cases hm
 ·exact q.elim
def zjj{v:V}{d:D}(h:PE X e (tC v))(hd:∀w,Shd cl w v d):PE X e (tE cl E (zal d)):=by
 refine PE.imp h ?_;rintro σ H Q ⟨B,w,ρ,S,rfl,R,q⟩;exact q v w R (Fut.refl _) (hd w)
def zjk(h:PE X e (tE cl E f)):PE X e (tH cl E f):=PE.imp h fun _ _ _=>ztb
def zb9(h:PE X e (tN cl E f)):PE X e (tE cl E f):=PE.imp h fun _ _ _=>ztc
noncomputable def OpD(X:Cx)(cl:Cf)(op:Value->Value->Sem Value)(g:D->D->Option D):Prop:=OpR X op fun x y H Q=>∃w d e r,w.H=H/\TopV cl w x d/\TopV cl w y e/\g d e=some r/\∀v w',Grow w w'->Shd cl w' v r->Q v w'.H
noncomputable def UnD(X:Cx)(cl:Cf)(op:Value->Sem Value)(g:D->Option D):Prop:=UnR X op fun x H Q=>∃w d r,w.H=H/\TopV cl w x d/\g d=some r/\∀v w',Grow w w'->Shd cl w' v r->Q v w'.H
noncomputable def ziP(X:Cx)(cl:Cf)(fv:Value)(g:List D->Option D):Prop:=zdC X fv fun xs H Q=>∃w ds r,w.H=H/\zk2 cl w xs ds/\g ds=some r/\∀v w',Grow w w'->Shd cl w' v r->Q v w'.H
noncomputable def zuJ(X:Cx)(cl:Cf)(fv:Value)(g:List D->Option D):Prop:=zdC X fv fun xs H Q=>∃w ds r,w.H=H/\zk2 cl w xs ds/\g ds=some r/\∀p o w',Grow w w'->w'.H p=none->Top cl w' o r->Q (.ref p) (upd w'.H p o)
noncomputable def IxD(X:Cx)(cl:Cf)(g:D->D->Option D):Prop:=IxR X fun x y H Q=>∃w d e r,w.H=H/\TopV cl w x d/\TopV cl w y e/\g d e=some r/\∀v w',Grow w w'->Shd cl w' v r->Q v w'.H
def two{gg:D->D->Option D}{r2:R2}(hr:∀x y H Q,(∃w d e r,w.H=H/\TopV cl w x d/\TopV cl w y e/\gg d e=some r/\∀v w',Grow w w'->Shd cl w' v r->Q v w'.H)->r2 x y H Q)(σ:St)(H:Hp)(Q:VK)(q:tE cl E (zai gg f h) σ H Q):tOp r2 (tH cl E f) (tH cl E h) σ H Q:=by
 obtain ⟨B,w,ρ,S,rfl,R,q⟩:=q;refine ⟨B,w,ρ,S,rfl,R,?_⟩;unfold zai at q
 cases hf:f ρ S with
 | bad=>rwa [hf] at q
 | exc c S1=>rwa [hf] at q
 | ok d S1 =>
  rw [hf] at q;intro v w1 R1 F1 h1;refine ⟨B,w1,ρ,S1,rfl,R1,?_⟩;dsimp only [Out.bind] at q
  cases hh:h ρ S1 with
  | bad=>rwa [hh] at q
  | exc c S2=>rw [hh] at q;exact fun w2 R2 F2=>q w2 R2 (F1.trans F2)
  | ok e S2 =>
   rw [hh] at q;intro y w2 R2 F2 h2;dsimp only at q
   cases hg:gg d e with
   | none=>rw [hg] at q;exact q.elim
   | some r =>
    rw [hg] at q;exact hr _ _ _ _ ⟨w2,d,e,r,rfl,(h1.up F2).top R2,h2.top R2,hg,fun v' w' gr sh=>q v' w' (R2.grow gr) (F1.trans (F2.trans gr.fut)) sh⟩
def zmY{op:Operator}{gg:D->D->Option D}(ho:OpD X cl (binaryOp op) gg)(ha:PE X a (tH cl E f))(hb:PE X b (tH cl E h)):PE X (.BinOp a op b pos) (tE cl E (zai gg f h)) :=
 PE.imp (zqX ho ha hb) (two fun _ _ _ _ z=>z)
def ztr{gg:D->D->Option D}(ho:IxD X cl gg)(ha:PE X a (tH cl E f))(hb:PE X b (tH cl E h))(hs:zfF b):PE X (.Subscript a b pos) (tE cl E (zai gg f h)) :=
 PE.imp (zq2 ho ha hb hs) (two fun _ _ _ _ z=>z)
def zqw{op:CmpOp}{gg:D->D->Option D}(ho:OpD X cl (compareOp op) gg)(ha:PE X a (tH cl E f))(hb:PE X b (tH cl E h))(hm:behindInMarks op b=false):PE X (.Compare a [op] [b] pos) (tE cl E (zai gg f h)) :=
 PE.imp (zjM ho ha hb hm) (two fun _ _ _ _ z=>z)
def ztp{op:UnaryOp}{gg:D->Option D}(ho:UnD X cl (unaryOp op) gg)(ha:PE X a (tH cl E f)):PE X (.UnaryOp op a pos) (tE cl E (eUn gg f)):=by
 refine PE.imp (ztC ho ha) ?_;rintro σ H Q ⟨B,w,ρ,S,rfl,R,q⟩;refine ⟨B,w,ρ,S,rfl,R,?_⟩;unfold eUn at q
 cases hf:f ρ S with
 | bad=>rwa [hf] at q
 | exc c S1=>rwa [hf] at q
 | ok d S1 =>
  rw [hf] at q;intro v w1 R1 F1 h1;dsimp only [Out.bind] at q
  cases hg:gg d with
  | none=>rw [hg] at q;exact q.elim
  | some r =>
   rw [hg] at q;exact ⟨w1,d,r,rfl,h1.top R1,hg,fun v' w' gr sh=>q v' w' (R1.grow gr) (F1.trans gr.fut) sh⟩
noncomputable def tTr(cl:Cf)(E:St->XK)(f:Fe):TT:=fun σ H Q=>∃B w ρ S,w.H=H/\Rel cl B σ w ρ S/\match f ρ S with
 | .ok d S'=>match isB d with
  | some b=>∀w',Rel cl B σ w' ρ S'->Fut w w'->Q b w'.H
  | none=>False
 | .exc c S'=>∀w',Rel cl B σ w' ρ S'->Fut w w'->E σ (.ref (cl c)) none w'.H
 | .bad=>False
def zcw{d:D}{b:Bool}(h:isB d=some b):d=.bl b:=by
 cases d<;>simp [isB] at h
 subst h;rfl
def zfV{w:Wd}{v:V}{b:Bool}(h:Shd cl w v (.bl b)):v=.bl b:=by cases h;rfl
def zhs{σ:St}{H:Hp}{Q:Bool->Hp->Prop}(q:tTr cl E f σ H Q):tB (tE cl E f) σ H Q:=by
 obtain ⟨B,w,ρ,S,rfl,R,q⟩:=q;refine ⟨B,w,ρ,S,rfl,R,?_⟩
 cases hf:f ρ S with
 | bad=>rwa [hf] at q
 | exc c S1=>rwa [hf] at q
 | ok d S1 =>
  rw [hf] at q;intro v w1 R1 F1 h1;dsimp only at q
  cases hb:isB d with
  | none=>rw [hb] at q;exact q.elim
  | some b =>
   rw [hb] at q;rw [zcw hb] at h1;exact ⟨b,zfV h1,q w1 R1 F1⟩
def zaN(h:PE X e (tE cl E f))(he:∀whole,isTrue e X.env whole=(do let v ← whole;standAt e.pos;holding [v] (truthy v))):PT X e (tTr cl E f) :=
 PT.imp (zqO h he) fun _ _ _ q=>zhs q
def zi6{gg:D->D->Option D}{r2:R2}(hr:∀x y H Q,(∃w d e r,w.H=H/\TopV cl w x d/\TopV cl w y e/\gg d e=some r/\∀v w',Grow w w'->Shd cl w' v r->Q v w'.H)->r2 x y H Q){σ:St}{H:Hp}{Q:Bool->Hp->Prop}(q:tTr cl E (zai gg f h) σ H Q):znE (tOp r2 (tH cl E f) (tH cl E h)) σ H Q :=
 two hr σ H _ (zhs q)
def zp6{op:CmpOp}{gg:D->D->Option D}(ho:OpD X cl (compareOp op) gg)(ha:PE X a (tH cl E f))(hb:PE X b (tH cl E h))(hm:behindInMarks op b=false):PT X (.Compare a [op] [b] pos) (tTr cl E (zai gg f h)) :=
 PT.imp (zjx ho ha hb hm) fun _ _ _ q=>zi6 (fun _ _ _ _ z=>z) q
def PW.imp{X:Cx}{e:Expr}{t t':TT}(h:PW X e t)(i:∀σ H Q,t' σ H Q->t σ H Q):PW X e t':=fun whole pins s σ H Q I q=>h whole pins s σ H Q I (i _ _ _ q)
def znD{σ:St}{H:Hp}{Q:Bool->Hp->Prop}(q:tTr cl E (zhb f h) σ H Q):zvz (tTr cl E f) (tTr cl E h) σ H Q:=by
 obtain ⟨B,w,ρ,S,rfl,R,q⟩:=q;refine ⟨B,w,ρ,S,rfl,R,?_⟩;unfold zhb at q
 cases hf:f ρ S with
 | bad=>rwa [hf] at q
 | exc c S1=>rwa [hf] at q
 | ok d S1 =>
  rw [hf] at q;dsimp only [Out.bind] at q ⊢
  cases hb:isB d with
  | none=>rw [hb] at q;exact q.elim
  | some b =>
   rw [hb] at q;intro w1 R1 F1
   cases b with
   | false=>exact znj (q w1 R1 F1)
   | true =>
    refine zni ⟨B,w1,ρ,S1,rfl,R1,?_⟩;dsimp only at q
    cases hh:h ρ S1 with
    | bad=>rwa [hh] at q
    | exc c S2=>rw [hh] at q;exact fun w2 R2 F2=>q w2 R2 (F1.trans F2)
    | ok e S2 =>
     rw [hh] at q;dsimp only at q ⊢
     cases hb2:isB e with
     | none=>rw [hb2] at q;exact q.elim
     | some b2=>rw [hb2] at q;exact fun w2 R2 F2=>q w2 R2 (F1.trans F2)
def zpT{σ:St}{H:Hp}{Q:Bool->Hp->Prop}(q:tTr cl E (eOr f h) σ H Q):tOr (tTr cl E f) (tTr cl E h) σ H Q:=by
 obtain ⟨B,w,ρ,S,rfl,R,q⟩:=q;refine ⟨B,w,ρ,S,rfl,R,?_⟩;unfold eOr at q
 cases hf:f ρ S with
 | bad=>rwa [hf] at q
 | exc c S1=>rwa [hf] at q
 | ok d S1 =>
  rw [hf] at q;dsimp only [Out.bind] at q ⊢
  cases hb:isB d with
  | none=>rw [hb] at q;exact q.elim
  | some b =>
   rw [hb] at q;intro w1 R1 F1
   cases b with
   | true=>exact zni (q w1 R1 F1)
   | false =>
    refine znj ⟨B,w1,ρ,S1,rfl,R1,?_⟩;dsimp only at q
    cases hh:h ρ S1 with
    | bad=>rwa [hh] at q
    | exc c S2=>rw [hh] at q;exact fun w2 R2 F2=>q w2 R2 (F1.trans F2)
    | ok e S2 =>
     rw [hh] at q;dsimp only at q ⊢
     cases hb2:isB e with
     | none=>rw [hb2] at q;exact q.elim
     | some b2=>rw [hb2] at q;exact fun w2 R2 F2=>q w2 R2 (F1.trans F2)
def znC{σ:St}{H:Hp}{Q:Bool->Hp->Prop}(q:tTr cl E (eUn zfl f) σ H Q):zvx (tTr cl E f) σ H Q:=by
 obtain ⟨B,w,ρ,S,rfl,R,q⟩:=q;refine ⟨B,w,ρ,S,rfl,R,?_⟩;unfold eUn at q
 cases hf:f ρ S with
 | bad=>rwa [hf] at q
 | exc c S1=>rwa [hf] at q
 | ok d S1 =>
  rw [hf] at q;dsimp only [Out.bind] at q ⊢
  cases hb:isB d with
  | none =>
   have:zfl d=none:=by cases d<;>simp [isB] at hb<;>rfl
   rw [this] at q;exact q.elim
  | some b =>
   rwa [zcw hb] at q
def zp4(ha:PT X a (tTr cl E f)):PT X (.UnaryOp .Not a pos) (tTr cl E (eUn zfl f)):=PT.imp (zqP ha) fun _ _ _ q=>znC q
def zp2{zbq:List Expr}(ha:PT X a (tTr cl E f))(hb:PW X (.BoolOp .And (b::zbq) pos) (tTr cl E h)):PW X (.BoolOp .And (a::b::zbq) pos) (tTr cl E (zhb f h)):=PW.imp (zqL ha hb) fun _ _ _ q=>znD q
def zti{zbq:List Expr}(ha:PT X a (tTr cl E f))(hb:PW X (.BoolOp .Or (b::zbq) pos) (tTr cl E h)):PW X (.BoolOp .Or (a::b::zbq) pos) (tTr cl E (eOr f h)):=PW.imp (ztz ha hb) fun _ _ _ q=>zpT q
def zqy{zbq:List Expr}(ha:PE X a (tE cl E f))(hb:PE X (.BoolOp .And (b::zbq) pos) (tE cl E h)):PE X (.BoolOp .And (a::b::zbq) pos) (tE cl E (zhb f h)):=by
 refine PE.imp (zq5 ha hb) ?_;rintro σ H Q ⟨B,w,ρ,S,rfl,R,q⟩;refine ⟨B,w,ρ,S,rfl,R,?_⟩;unfold zhb at q
 cases hf:f ρ S with
 | bad=>rwa [hf] at q
 | exc c S1=>rwa [hf] at q
 | ok d S1 =>
  rw [hf] at q;intro v w1 R1 F1 h1;dsimp only [Out.bind] at q
  cases hb:isB d with
  | none=>rw [hb] at q;exact q.elim
  | some b =>
   rw [hb] at q;rw [zcw hb] at h1;refine ⟨b,zfV h1,?_⟩
   cases b with
   | false=>exact znj (q _ w1 R1 F1 (.bl false))
   | true =>
    refine zni ⟨B,w1,ρ,S1,rfl,R1,?_⟩;dsimp only at q
    cases hh:h ρ S1 with
    | bad=>rwa [hh] at q
    | exc c S2=>rw [hh] at q;exact fun w2 R2 F2=>q w2 R2 (F1.trans F2)
    | ok e S2=>rw [hh] at q;exact fun v w2 R2 F2=>q v w2 R2 (F1.trans F2)
def ztq{zbq:List Expr}(ha:PE X a (tE cl E f))(hb:PE X (.BoolOp .Or (b::zbq) pos) (tE cl E h)):PE X (.BoolOp .Or (a::b::zbq) pos) (tE cl E (eOr f h)):=by
 refine PE.imp (ztD ha hb) ?_;rintro σ H Q ⟨B,w,ρ,S,rfl,R,q⟩;refine ⟨B,w,ρ,S,rfl,R,?_⟩;unfold eOr at q
 cases hf:f ρ S with
 | bad=>rwa [hf] at q
 | exc c S1=>rwa [hf] at q
 | ok d S1 =>
  rw [hf] at q;intro v w1 R1 F1 h1;dsimp only [Out.bind] at q
  cases hb:isB d with
  | none=>rw [hb] at q;exact q.elim
  | some b =>
   rw [hb] at q;rw [zcw hb] at h1;refine ⟨b,zfV h1,?_⟩
   cases b with
   | true=>exact zni (q _ w1 R1 F1 (.bl true))
   | false =>
    refine znj ⟨B,w1,ρ,S1,rfl,R1,?_⟩;dsimp only at q
    cases hh:h ρ S1 with
    | bad=>rwa [hh] at q
    | exc c S2=>rw [hh] at q;exact fun w2 R2 F2=>q w2 R2 (F1.trans F2)
    | ok e S2=>rw [hh] at q;exact fun v w2 R2 F2=>q v w2 R2 (F1.trans F2)
def zqq(ha:PE X a (tE cl E f)):PE X (.UnaryOp .Not a pos) (tE cl E (eUn zfl f)):=by
 refine PE.imp (zqZ ha) ?_;rintro σ H Q ⟨B,w,ρ,S,rfl,R,q⟩;refine ⟨B,w,ρ,S,rfl,R,?_⟩;unfold eUn at q
 cases hf:f ρ S with
 | bad=>rwa [hf] at q
 | exc c S1=>rwa [hf] at q
 | ok d S1 =>
  rw [hf] at q;intro v w1 R1 F1 h1;dsimp only [Out.bind] at q
  cases hb:isB d with
  | none =>
   have:zfl d=none:=by cases d<;>simp [isB] at hb<;>rfl
   rw [this] at q;exact q.elim
  | some b =>
   rw [zcw hb] at q h1;exact ⟨b,zfV h1,q _ w1 R1 F1 (.bl _)⟩
def ztd{σ:St}{H:Hp}{Q:VK}(q:tE cl E (eIf g f h) σ H Q):tIf (tTr cl E g) (tE cl E f) (tE cl E h) σ H Q:=by
 obtain ⟨B,w,ρ,S,rfl,R,q⟩:=q;refine ⟨B,w,ρ,S,rfl,R,?_⟩;unfold eIf at q
 cases hg:g ρ S with
 | bad=>rwa [hg] at q
 | exc c S1=>rwa [hg] at q
 | ok d S1 =>
  rw [hg] at q;dsimp only [Out.bind] at q ⊢
  cases hb:isB d with
  | none=>rw [hb] at q;exact q.elim
  | some b =>
   rw [hb] at q;intro w1 R1 F1
   cases b with
   | true =>
    refine zni ⟨B,w1,ρ,S1,rfl,R1,?_⟩;dsimp only at q
    cases hh:f ρ S1 with
    | bad=>rwa [hh] at q
    | exc c S2=>rw [hh] at q;exact fun w2 R2 F2=>q w2 R2 (F1.trans F2)
    | ok e S2=>rw [hh] at q;exact fun v w2 R2 F2=>q v w2 R2 (F1.trans F2)
   | false =>
    refine znj ⟨B,w1,ρ,S1,rfl,R1,?_⟩;dsimp only at q
    cases hh:h ρ S1 with
    | bad=>rwa [hh] at q
    | exc c S2=>rw [hh] at q;exact fun w2 R2 F2=>q w2 R2 (F1.trans F2)
    | ok e S2=>rw [hh] at q;exact fun v w2 R2 F2=>q v w2 R2 (F1.trans F2)
def zts(hc:PT X c (tTr cl E g))(ha:PE X a (tE cl E f))(hb:PE X b (tE cl E h)):PE X (.IfExp c a b pos) (tE cl E (eIf g f h)):=PE.imp (zlF hc ha hb) fun _ _ _ q=>ztd q
def zeG:PA X [] (tAs cl E []):=by
 refine PA.imp zea ?_;rintro σ H Q ⟨B,w,ρ,S,rfl,R,q⟩;exact q [] w R (Fut.refl _) .nil
def zcf{es:List Expr}{fs:List Fe}(ha:PE X e (tE cl E f))(hr:PA X es (tAs cl E fs))(hs:starEach (e::es) X.env=(false,eval e X.env)::starEach es X.env):PA X (e::es) (tAs cl E (f::fs)):=by
 refine PA.imp (zbZ ha hr hs) ?_;rintro σ H Q ⟨B,w,ρ,S,rfl,R,q⟩;refine ⟨B,w,ρ,S,rfl,R,?_⟩;unfold zae at q
 cases hf:f ρ S with
 | bad=>rwa [hf] at q
 | exc c S1=>rwa [hf] at q
 | ok d S1 =>
  rw [hf] at q;intro v w1 R1 F1 h1;refine ⟨B,w1,ρ,S1,rfl,R1,?_⟩;dsimp only [Out.bind] at q
  cases hh:zae fs ρ S1 with
  | bad=>rwa [hh] at q
  | exc c S2=>rw [hh] at q;exact fun w2 R2 F2=>q w2 R2 (F1.trans F2)
  | ok ds S2 =>
   rw [hh] at q;exact fun vs w2 R2 F2 h2=>q _ w2 R2 (F1.trans F2) (.cons (h1.up F2) h2)
def zmX:PA X [] (tHs cl E []):=by
 refine PA.imp zea ?_;rintro σ H Q ⟨B,w,ρ,S,rfl,R,q⟩;exact q [] w R (Fut.refl _) .nil
def zjg{es:List Expr}{fs:List Fe}(ha:PE X e (tH cl E f))(hr:PA X es (tHs cl E fs))(hs:starEach (e::es) X.env=(false,eval e X.env)::starEach es X.env):PA X (e::es) (tHs cl E (f::fs)):=by
 refine PA.imp (zbZ ha hr hs) ?_;rintro σ H Q ⟨B,w,ρ,S,rfl,R,q⟩;refine ⟨B,w,ρ,S,rfl,R,?_⟩;unfold zae at q
 cases hf:f ρ S with
 | bad=>rwa [hf] at q
 | exc c S1=>rwa [hf] at q
 | ok d S1 =>
  rw [hf] at q;intro v w1 R1 F1 h1;refine ⟨B,w1,ρ,S1,rfl,R1,?_⟩;dsimp only [Out.bind] at q
  cases hh:zae fs ρ S1 with
  | bad=>rwa [hh] at q
  | exc c S2=>rw [hh] at q;exact fun w2 R2 F2=>q w2 R2 (F1.trans F2)
  | ok ds S2 =>
   rw [hh] at q;exact fun vs w2 R2 F2 h2=>q _ w2 R2 (F1.trans F2) (.cons (h1.up F2) h2)
def zqo{es:List Expr}{fs:List Fe}{k:Nat}(h:PA X es (tAs cl E fs)):PE X (.Tuple es k pos) (tE cl E (zg9 fs)):=by
 refine PE.imp (zqV h) ?_;rintro σ H Q ⟨B,w,ρ,S,rfl,R,q⟩;refine ⟨B,w,ρ,S,rfl,R,?_⟩;unfold zg9 at q
 cases hf:zae fs ρ S with
 | bad=>rwa [hf] at q
 | exc c S1=>rwa [hf] at q
 | ok ds S1 =>
  rw [hf] at q;intro vs w1 R1 F1 h1;dsimp only [Out.bind] at q
  cases hz:zaX ds.length with
  | false=>rw [hz,if_neg (by decide)] at q;exact q.elim
  | true =>
   rw [hz,if_pos rfl] at q;refine ⟨by rw [h1.length];exact zaY hz,fun p hp=>?_⟩;exact q _ (w1.add p (.tup vs)) (R1.grow (zaq hp _)) (F1.trans (zaq hp _).fut) (Shd.newT hp h1)
def zqt{es:List Expr}{fs:List Fe}(h:PA X es (tAs cl E fs)):PE X (.List es pos) (tN cl E (zkD fs)):=by
 refine PE.imp (zq1 h) ?_;rintro σ H Q ⟨B,w,ρ,S,rfl,R,q⟩;refine ⟨B,w,ρ,S,rfl,R,?_⟩;unfold zkD at q
 cases hf:zae fs ρ S with
 | bad=>rwa [hf] at q
 | exc c S1=>rwa [hf] at q
 | ok ds S1 =>
  rw [hf] at q;intro vs w1 R1 F1 h1;dsimp only [Out.bind] at q
  cases hz:zaX ds.length with
  | false=>rw [hz,if_neg (by decide)] at q;exact q.elim
  | true =>
   rw [hz,if_pos rfl] at q;refine ⟨by rw [h1.length];exact zaY hz,fun p hp=>?_⟩;exact q _ (.lst vs) w1 R1 F1 hp (.lst h1)
def zpZ{fs:List Fe}{gg:List D->Option D}{r:List V->Hp->VK->Prop}(hr:∀xs H Q,(∃w ds r,w.H=H/\zk2 cl w xs ds/\gg ds=some r/\∀v w',Grow w w'->Shd cl w' v r->Q v w'.H)->r xs H Q){σ:St}{H:Hp}{Q:VK}(q:tE cl E (zar gg fs) σ H Q):tCB r (tHs cl E fs) σ H Q:=by
 obtain ⟨B,w,ρ,S,rfl,R,q⟩:=q;refine ⟨B,w,ρ,S,rfl,R,?_⟩;unfold zar at q
 cases hf:zae fs ρ S with
 | bad=>rwa [hf] at q
 | exc c S1=>rwa [hf] at q
 | ok ds S1 =>
  rw [hf] at q;intro vs w1 R1 F1 h1;dsimp only [Out.bind] at q
  cases hg:gg ds with
  | none=>rw [hg] at q;exact q.elim
  | some d =>
   rw [hg] at q;exact hr _ _ _ ⟨w1,ds,d,rfl,h1.top R1,hg,fun v w' gr sh=>q v w' (R1.grow gr) (F1.trans gr.fut) sh⟩
def ztg{fs:List Fe}{gg:List D->Option D}{r:List V->Hp->VK->Prop}(hr:∀xs H Q,(∃w ds r,w.H=H/\zk2 cl w xs ds/\gg ds=some r/\∀p o w',Grow w w'->w'.H p=none->Top cl w' o r->Q (.ref p) (upd w'.H p o))->r xs H Q){σ:St}{H:Hp}{Q:VK}(q:tN cl E (zar gg fs) σ H Q):tCB r (tHs cl E fs) σ H Q:=by
 obtain ⟨B,w,ρ,S,rfl,R,q⟩:=q;refine ⟨B,w,ρ,S,rfl,R,?_⟩;unfold zar at q
 cases hf:zae fs ρ S with
 | bad=>rwa [hf] at q
 | exc c S1=>rwa [hf] at q
 | ok ds S1 =>
  rw [hf] at q;intro vs w1 R1 F1 h1;dsimp only [Out.bind] at q
  cases hg:gg ds with
  | none=>rw [hg] at q;exact q.elim
  | some d =>
   rw [hg] at q;exact hr _ _ _ ⟨w1,ds,d,rfl,h1.top R1,hg,fun p o w' gr hp t=>q p o w' (R1.grow gr) (F1.trans gr.fut) hp t⟩
end
end S2
namespace S2
open PySem PySem.Spec PyProof.Rows L2
noncomputable def Root.out:Option Root->Option Root | some (.slot _)=>some .far | o=>o
def Root.out_none{o:Option Root}:Root.out o=none↔o=none:=by
 cases o with
 | none=>exact ⟨fun h=>h,fun h=>h⟩
 | some r=>cases r<;>simp [Root.out]
noncomputable def zek:Option Root->Bool | some (.fld _ _)=>true | some (.obj _)=>true | _=>false
noncomputable def Wd.inn(w:Wd):Wd:=⟨w.H,fun a=>Root.out (w.ow a),w.mu⟩
noncomputable def Wd.base(w:Wd):Base:=⟨fun a=>if zek (w.ow a)=true then none else w.H a,fun a=>Root.out (w.ow a)⟩
noncomputable def Wd.back(w w':Wd):Wd:=⟨w'.H,fun a=>if (w.base.Fr a).isSome=true then w.ow a else Root.out (w'.ow a),w'.mu⟩
def zbL(w:Wd):Fut w w.inn:=⟨fun a o h k=>⟨h,by show Root.out (w.ow a)=none;rw [k];rfl⟩,fun _ _ h=>h⟩
def zgz{w:Wd}{a:Addr}{o:HO}(h:w.H a=some o)(k:zek (w.ow a)=false):w.base.Fr a=some o:=by
 show (if zek (w.ow a)=true then none else w.H a)=_;rw [k,if_neg (by decide)];exact h
def zoz{w:Wd}{a:Addr}{o:HO}(h:w.base.Fr a=some o):w.H a=some o/\zek (w.ow a)=false:=by
 have h':(if zek (w.ow a)=true then none else w.H a)=some o:=h;split at h'
 ·cases h'
 ·rename_i z;exact ⟨h',by simpa using z⟩
section
variable{cl:Cf}{B:Base}{σ:St}{w w':Wd}{ρ:Env}{S S':Sto}
def World'.enter(W:World' cl B w S):World' cl w.base w.inn S where
 fr:=fun a o h=>⟨(zoz h).1,rfl⟩
 own:=fun a r h=>by
  have h':Root.out (w.ow a)=some r:=h
  cases e:w.ow a with
  | none=>rw [e] at h';cases h'
  | some q =>
   cases q with
   | slot i=>rw [e] at h';cases h';exact .inl rfl
   | far=>rw [e] at h';cases h';exact .inl rfl
   | fld n f=>exact .inr (by show (if zek (w.ow a)=true then none else w.H a)=none;rw [e];rfl)
   | obj n=>exact .inr (by show (if zek (w.ow a)=true then none else w.H a)=none;rw [e];rfl)
 len:=W.len
 obj:=fun n ob h=>by
  obtain ⟨a,e,x⟩:=W.obj n ob h;refine ⟨a,e,x.keep (zbL w) fun a o ha hn=>⟨ha,?_⟩⟩;show Root.out (w.ow a)=w.ow a
  cases e:w.ow a with
  | none=>rfl
  | some q=>cases q with
   | slot i=>rw [e] at hn;exact hn.elim
   | _=>rfl
def zc0(W:World' cl B w S){a:Addr}{o:HO}(h:B.Fr a=some o):w.base.Fr a=some o:=by
 refine zgz (W.fr a o h).1 ?_
 cases e:w.ow a with
 | none=>rfl
 | some q =>
  rcases W.own a q e with rfl | z
  ·rfl
  ·rw [h] at z;cases z
def zcy(W':World' cl w.base w' S'):Fut w' (w.back w') where
 keep:=fun a o h k=>by
  refine ⟨h,?_⟩;show (if (w.base.Fr a).isSome=true then w.ow a else Root.out (w'.ow a))=none;split
  ·rename_i z;obtain ⟨u,hu⟩:=yb7.mp z;have:=(W'.fr a u hu).2;rw [k] at this;exact Root.out_none.mp this.symm
  ·rw [k];rfl
 mu:=fun _ _ h=>h
def Rel.leave(R:Rel cl B σ w ρ S)(W':World' cl w.base w' S')(F:Fut w.inn w'):Rel cl B σ (w.back w') ρ S'/\Fut w (w.back w'):=by
 have fb:=zcy W';have ff:Fut w (w.back w'):=(zbL w).trans (F.trans fb)
 have in_:∀a o,w.base.Fr a=some o->(w.back w').H a=some o/\(w.back w').ow a=w.ow a:=fun a o h=>by
  refine ⟨(W'.fr a o h).1,?_⟩;show (if (w.base.Fr a).isSome=true then w.ow a else _)=_;rw [h];rfl
 refine ⟨⟨⟨fun a o h=>?_,fun a r h=>?_,W'.len,fun n ob h=>?_⟩,R.len,fun i o d h=>?_⟩,ff⟩
 ·have:=in_ a o (zc0 R.wd h);exact ⟨this.1,this.2.trans (R.wd.fr a o h).2⟩
 ·cases hb:B.Fr a with
  | none=>exact .inr rfl
  | some o =>
   have:=(in_ a o (zc0 R.wd hb)).2;rw [h] at this
   rcases R.wd.own a r this.symm with z | z
   ·exact .inl z
   ·rw [hb] at z;cases z
 ·obtain ⟨a,e,x⟩:=W'.obj n ob h;refine ⟨a,e,x.keep fb fun a o ha hn=>⟨ha,?_⟩⟩;show (if (w.base.Fr a).isSome=true then w.ow a else Root.out (w'.ow a))=_
  cases e:w'.ow a with
  | none=>rw [e] at hn;exact hn.elim
  | some q =>
   rcases W'.own a q e with rfl | z
   ·rw [e] at hn;exact hn.elim
   ·rw [z]
    cases q with
    | slot i=>rw [e] at hn;exact hn.elim
    | _=>rfl
 ·obtain ⟨v,e,x⟩:=R.slots i o d h;refine ⟨v,e,x.keep ff fun a u ha hr=>?_⟩;have:=in_ a u (zgz ha (by rw [hr];rfl));exact ⟨this.1,this.2.trans hr⟩
noncomputable def Wd.del(w:Wd)(a:Addr):Wd:=⟨fun b=>if b=a then none else w.H b,w.ow,w.mu⟩
def zg5{a:Addr}(k:w.ow a≠none):Fut w (w.del a) where
 keep:=fun b o h e=>⟨by
  show (if b=a then none else w.H b)=_
  rw [if_neg (fun z=>k (by rw [<-z];exact e))];exact h,e⟩
 mu:=fun _ _ h=>h
def ziW{a:Addr}{o:HO}(h:w.H a=some o):upd (w.del a).H a o=w.H:=by
 funext b
 by_cases e:b=a
 ·rw [e,zat,h]
 ·rw [zag e];show (if b=a then none else w.H b)=_;rw [if_neg e]
theorem Rel.del{a:Addr}(R:Rel cl B σ w ρ S)(k:w.ow a=some .far)(hb:B.Fr a=none):Rel cl B σ (w.del a) ρ S:=by
 have fd:Fut w (w.del a):=zg5 (by rw [k];exact yaG _)
 have kp:∀b o,w.H b=some o->b≠a->(w.del a).H b=some o:=fun b o h n=>by
  show (if b=a then none else w.H b)=_;rw [if_neg n];exact h
 refine ⟨⟨fun b o h=>⟨kp b o (R.wd.fr b o h).1 (fun z=>by rw [z,hb] at h;cases h),(R.wd.fr b o h).2⟩,R.wd.own,R.wd.len,fun n ob h=>?_⟩,R.len,fun i o d h=>?_⟩
 ·obtain ⟨c,e,x⟩:=R.wd.obj n ob h;exact ⟨c,e,x.keep fd fun b o hb' hn=>⟨kp b o hb' (fun z=>by rw [z,k] at hn;exact hn.elim),rfl⟩⟩
 ·obtain ⟨v,e,x⟩:=R.slots i o d h;exact ⟨v,e,x.keep fd fun b o hb' hr=>⟨kp b o hb' (fun z=>by rw [z,k] at hr;cases hr),hr⟩⟩
end
noncomputable def zwQ(cl:Cf)(w:Wd):Bool->V->D->Prop
 | false,v,d=>Shd cl w v d
 | true,v,d=>∃a o i,v=.ref a/\w.ow a=some (.slot i)/\w.H a=some o/\Top cl w o d
noncomputable def zik(cl:Cf)(n:Nat)(own:Bool)(G:List D->Sto->Out D):Sp:=fun vs H Q E=>vs.length=n/\∃B w ds S,w.H=H/\World' cl B w S/\Shds cl w vs ds/\match G ds S with
 | .ok d S'=>∀v w',World' cl B w' S'->Fut w w'->zwQ cl w' own v d->Q v w'.H
 | .exc c S'=>∀w',World' cl B w' S'->Fut w w'->E (.ref (cl c)) none w'.H
 | .bad=>False
noncomputable def zcu(CX:CXT)(X:Cx)(E:St->XK):Prop:=∀(pins:Z3) (σ:St) (H:Hp) (s:Shared) (e:Value) (s':Shared),Inv X pins σ H s->CX X.stack H s (E σ) e s'->X.xe e s'
noncomputable def zfP(sp:Sp)(dvs:List V)(E:St->XK)(t:TA):TE:=fun σ H Q=>t σ H fun vs H1=>sp (vs++dvs) H1 Q (E σ)
section
variable{X:Cx}{CX:CXT}{k:Nat}{f C:Addr}{fd:FuncData}{ps:List Str}{sp:Sp}{dvs:List V}{ds:List Value}{E:St->XK}{x m:Str}{p pos apos:Pos}{e o:Expr}{es:List Expr}{ta:TE}{t:TA}
def zfa{pins:Z3}{σ:St}{H:Hp}{s:Shared}{Q:VK}{us:List Value}{vs:List V}(F:FnOk X.prog X.w X.K X.mg X.base CX k f fd ps sp)(hr:Room k X.A)(hb:zcD X.K fd ps ds)(hd:Vals dvs ds)(hx:zcu CX X E)
  (I:Inv X pins σ H s) (r:Vals vs us) (h:sp (vs++dvs) H Q (E σ)):wpAny (model X.prog X.w) X.A (call (.ref f) us) (EP X pins σ Q) X.xe s:=by
 have r2:Vals (vs++dvs) (us++ds):=r.append hd
 have hl:(us++ds).length=ps.length:=by rw [<-r2.length];exact F.len _ _ _ _ h
 refine wpAny_call (yct (F.run X.A X.stack s H ⟨us,[]⟩ (us++ds) (vs++dvs) Q (E σ) hr I.env0 (hb s us I.kIn hl) r2 h) fun r s' hq=>?_)
 cases r with
 | error e=>exact hx pins σ H s e s' I hq
 | ok fl =>
  cases fl with
  | ret u=>exact I.after hq
  | next=>exact False.elim hq
  | brk=>exact False.elim hq
  | cont=>exact False.elim hq
def zlK(F:FnOk X.prog X.w X.K X.mg X.base CX k f fd ps sp)(hr:Room k X.A)(hg:Gl X x)(hm:X.mg x=some (.ref f))(hk:PySem.W.keepIn X.K (.ref f)=true)(hb:zcD X.K fd ps ds)(hd:Vals dvs ds)(hx:zcu CX X E)
  (ha:PA X (e::es) t) (hdb:(x == ("__debug__":Str))=false) (he:starEach (e::es) X.env=(false,eval e X.env)::starEach es X.env) (hpl:(backTo pos (starEach es X.env)).any (·.1)=false) :
  PE X (.Call (.Name x p) (e::es) [] pos) (zfP sp dvs E t):=by
 intro pins s σ H Q I h;refine ybN (zeg I hg hm ?_ hdb);refine ycQ (h₀:=X.base) I.ok.mod.kin hk (thn (ha pos pins s σ H _ I h) fun us s1 ⟨vs,H1,I1,r,q⟩=>⟨I1.kIn,?_⟩) he hpl;exact zfa F hr hb hd hx I1 r q
def zjN(F:FnOk X.prog X.w X.K X.mg X.base CX k f fd ps sp)(hr:Room k X.A)(hg:Gl X x)(hm:X.mg x=some (.ref f))(hk:PySem.W.keepIn X.K (.ref f)=true)(hb:zcD X.K fd ps ds)(hd:Vals dvs ds)(hx:zcu CX X E)
  (hdb:(x == ("__debug__":Str))=false):PE X (.Call (.Name x p) [] [] pos) (zfP sp dvs E zsq):=by
 intro pins s σ H Q I h;refine ybN (zeg I hg hm ?_ hdb);exact PySem.W.callWith_K0 I.kIn hk (zfa (us:=[]) F hr hb hd hx I .nil h)
end
noncomputable def eFn(G:List D->Sto->Out D)(fs:List Fe):Fe:=fun ρ S=>(zae fs ρ S).bind fun ds S1=>G ds S1
section
variable{cl:Cf}{E:St->XK}{fs:List Fe}{G:List D->Sto->Out D}{σ:St}{H:Hp}{Q:VK}{n:Nat}
def zsb(q:tE cl E (eFn G fs) σ H Q)(hn:fs.length=n):zfP (zik cl n false G) [] E (tAs cl E fs) σ H Q:=by
 obtain ⟨B,w,ρ,S,rfl,R,q⟩:=q;refine ⟨B,w,ρ,S,rfl,R,?_⟩;unfold eFn at q
 cases hf:zae fs ρ S with
 | bad=>rwa [hf] at q
 | exc c S1=>rwa [hf] at q
 | ok ds S1 =>
  rw [hf] at q;intro vs w1 R1 F1 h1;dsimp only [Out.bind] at q
  have hl:∀(fs:List Fe) (S S1:Sto) (ds:List D),zae fs ρ S=.ok ds S1->ds.length=fs.length:=by
   intro fs
   induction fs with
   | nil=>intro S S1 ds h;cases h;rfl
   | cons f fs ih =>
    intro S S1 ds h;unfold zae at h
    cases h1:f ρ S with
    | bad=>rw [h1] at h;cases h
    | exc c S2=>rw [h1] at h;cases h
    | ok d S2 =>
     rw [h1] at h;dsimp only [Out.bind] at h
     cases h2:zae fs ρ S2 with
     | bad=>rw [h2] at h;cases h
     | exc c S3=>rw [h2] at h;cases h
     | ok es S3=>rw [h2] at h;cases h;rw [yaj,yaj,ih S2 _ es h2]
  refine ⟨by rw [yaK,h1.length,hl fs S S1 ds hf];exact hn,w1.base,w1.inn,ds,S1,rfl,R1.wd.enter,by rw [yaK];exact h1.up (zbL w1),?_⟩
  cases hg:G ds S1 with
  | bad=>rwa [hg] at q
  | exc c S2 =>
   rw [hg] at q;intro w2 W2 F2;obtain ⟨R3,F3⟩:=R1.leave W2 F2;exact q (w1.back w2) R3 (F1.trans F3)
  | ok d S2 =>
   rw [hg] at q;intro v w2 W2 F2 r2;obtain ⟨R3,F3⟩:=R1.leave W2 F2;exact q v (w1.back w2) R3 (F1.trans F3) (Shd.up (zcy W2) r2)
def zsa(q:tN cl E (eFn G fs) σ H Q)(hn:fs.length=n):zfP (zik cl n true G) [] E (tAs cl E fs) σ H Q:=by
 obtain ⟨B,w,ρ,S,rfl,R,q⟩:=q;refine ⟨B,w,ρ,S,rfl,R,?_⟩;unfold eFn at q
 cases hf:zae fs ρ S with
 | bad=>rwa [hf] at q
 | exc c S1=>rwa [hf] at q
 | ok ds S1 =>
  rw [hf] at q;intro vs w1 R1 F1 h1;dsimp only [Out.bind] at q
  have hl:∀(fs:List Fe) (S S1:Sto) (ds:List D),zae fs ρ S=.ok ds S1->ds.length=fs.length:=by
   intro fs
   induction fs with
   | nil=>intro S S1 ds h;cases h;rfl
   | cons f fs ih =>
    intro S S1 ds h;unfold zae at h
    cases h1:f ρ S with
    | bad=>rw [h1] at h;cases h
    | exc c S2=>rw [h1] at h;cases h
    | ok d S2 =>
     rw [h1] at h;dsimp only [Out.bind] at h
     cases h2:zae fs ρ S2 with
     | bad=>rw [h2] at h;cases h
     | exc c S3=>rw [h2] at h;cases h
     | ok es S3=>rw [h2] at h;cases h;rw [yaj,yaj,ih S2 _ es h2]
  refine ⟨by rw [yaK,h1.length,hl fs S S1 ds hf];exact hn,w1.base,w1.inn,ds,S1,rfl,R1.wd.enter,by rw [yaK];exact h1.up (zbL w1),?_⟩
  cases hg:G ds S1 with
  | bad=>rwa [hg] at q
  | exc c S2 =>
   rw [hg] at q;intro w2 W2 F2;obtain ⟨R3,F3⟩:=R1.leave W2 F2;exact q (w1.back w2) R3 (F1.trans F3)
  | ok d S2 =>
   rw [hg] at q;intro v w2 W2 F2 r2;obtain ⟨R3,F3⟩:=R1.leave W2 F2;obtain ⟨a,o,i,rfl,k1,k2,t⟩:=r2;have hfr:w1.base.Fr a=none:=(W2.own a _ k1).elim (fun z=>by cases z) fun z=>z
   have k3:(w1.back w2).ow a=some .far:=by
    show (if (w1.base.Fr a).isSome=true then w1.ow a else Root.out (w2.ow a))=_;rw [hfr,k1];rfl
   have hb:B.Fr a=none:=by
    cases z:B.Fr a with
    | none=>rfl
    | some u=>rw [zc0 R1.wd z] at hfr;cases hfr
   have hd:=zg5 (w:=w1.back w2) (a:=a) (by rw [k3];exact yaG _);have:=q a o ((w1.back w2).del a) (R3.del k3 hb) (F1.trans (F3.trans hd)) (if_pos rfl) ((t.up (zcy W2)).up hd);rwa [ziW (w:=w1.back w2) k2] at this
end
end S2
namespace S2
open PySem PySem.Spec PyProof.Rows L2
noncomputable def frz1(ρ:Env)(i:Nat):Env:=match ρ[i]? with | some (some (true,d))=>ρ.set i (some (false,d)) | _=>ρ
noncomputable def frz(is:List Nat)(ρ:Env):Env:=is.foldl frz1 ρ
noncomputable def sFz(is:List Nat)(f:Fs):Fs:=fun ρ S=>f (frz is ρ) S
noncomputable def sNx:Fs:=fun ρ S=>.nx ρ S
noncomputable def sBk:Fs:=fun ρ S=>.bk ρ S
noncomputable def zan(f g:Fs):Fs:=fun ρ S=>match f ρ S with | .nx ρ' S'=>g ρ' S' | o=>o
noncomputable def zcc(i:Nat)(own:Bool)(f:Fe):Fs:=fun ρ S=>match f ρ S with | .ok d S'=>.nx (ρ.set i (some (own,d))) S' | .exc c S'=>.ex c ρ S' | .bad=>.bad
noncomputable def zmZ(f:Fe):Fs:=fun ρ S=>match f ρ S with | .ok _ S'=>.nx ρ S' | .exc c S'=>.ex c ρ S' | .bad=>.bad
noncomputable def zbh(f:Fe):Fs:=fun ρ S=>match f ρ S with | .ok d S'=>.rt d S' | .exc c S'=>.ex c ρ S' | .bad=>.bad
noncomputable def zlm:Fs:=fun _ S=>.rt .non S
noncomputable def zjn(i:Nat):Fs:=fun ρ S=>match ρ[i]? with | some (some (true,d))=>.rt d S | _=>.bad
noncomputable def sIf(c:Fe)(f g:Fs):Fs:=fun ρ S=>match c ρ S with | .ok d S'=>(match isB d with | some true=>f ρ S' | some false=>g ρ S' | none=>.bad) | .exc x S'=>.ex x ρ S' | .bad=>.bad
noncomputable def zib(cl:Cf)(E:St->XK)(own:Bool)(B:Base)(w:Wd)(De:Ends):Fo->Prop
 | .nx ρ' S'=>∀σ' w',Rel cl B σ' w' ρ' S'->Fut w w'->De.nx σ' w'.H
 | .bk ρ' S'=>∀σ' w',Rel cl B σ' w' ρ' S'->Fut w w'->De.bk σ' w'.H
 | .ct ρ' S'=>∀σ' w',Rel cl B σ' w' ρ' S'->Fut w w'->De.ct σ' w'.H
 | .rt d S'=>∀v w',World' cl B w' S'->Fut w w'->zwQ cl w' own v d->De.rt v w'.H
 | .ex c ρ' S'=>∀σ' w',Rel cl B σ' w' ρ' S'->Fut w w'->E σ' (.ref (cl c)) none w'.H
 | .bad=>False
theorem zib.up{cl:Cf}{E:St->XK}{own:Bool}{B:Base}{w w1:Wd}{De:Ends}(f:Fut w w1):∀{o:Fo},zib cl E own B w De o->zib cl E own B w1 De o
 | .nx _ _,h=>fun σ' w' R F=>h σ' w' R (f.trans F)
 | .bk _ _,h=>fun σ' w' R F=>h σ' w' R (f.trans F)
 | .ct _ _,h=>fun σ' w' R F=>h σ' w' R (f.trans F)
 | .rt _ _,h=>fun v w' R F=>h v w' R (f.trans F)
 | .ex _ _ _,h=>fun σ' w' R F=>h σ' w' R (f.trans F)
 | .bad,h=>h
noncomputable def tS(cl:Cf)(E:St->XK)(own:Bool)(f:Fs):TS:=fun De σ H=>∃B w ρ S,w.H=H/\Rel cl B σ w ρ S/\zib cl E own B w De (f ρ S)
def PS.imp{X:Cx}{st:Stmt}{t t':TS}(h:PS X st t)(i:∀De σ H,t' De σ H->t De σ H):PS X st t':=fun pins s σ H De I q=>h pins s σ H De I (i _ _ _ q)
def PSs.imp{X:Cx}{st:List Stmt}{t t':TS}(h:PSs X st t)(i:∀De σ H,t' De σ H->t De σ H):PSs X st t':=fun pins s σ H De I q=>h pins s σ H De I (i _ _ _ q)
section
variable{cl:Cf}{B:Base}{σ:St}{w:Wd}{ρ:Env}{S:Sto}
def Rel.put{i:Nat}{v:V}{d:D}(R:Rel cl B σ w ρ S)(h:Shd cl w v d):Rel cl B (σ.set i (some v)) w (ρ.set i (some (false,d))) S where
 wd:=R.wd
 len:=by rw [yay,yay];exact R.len
 slots:=fun j o e hj=>by
  by_cases hij:i=j
  ·subst hij
   have hlt:i<ρ.length:=by
    have:=(yan.mp hj).1;rwa [yay] at this
   rw [yaA hlt] at hj;cases hj;exact ⟨v,by rw [yaA (by rw [R.len];exact hlt)],h⟩
  ·rw [yaP hij] at hj ⊢;exact R.slots j o e hj
noncomputable def Wd.addAs(w:Wd)(p:Addr)(o:HO)(r:Root):Wd:=⟨upd w.H p o,fun a=>if a=p then some r else if w.ow a=some r then some .far else w.ow a,w.mu⟩
def zbx{p:Addr}{o:HO}{r:Root}(h:w.H p=none):Fut w (w.addAs p o r) where
 keep:=fun a u ha hk=>by
  have n:a≠p:=zam ha h;refine ⟨?_,?_⟩
  ·show upd w.H p o a=_;rw [zag n];exact ha
  ·show (if a=p then some r else if w.ow a=some r then some Root.far else w.ow a)=none;rw [if_neg n,if_neg (by rw [hk];exact fun z=>by cases z)];exact hk
 mu:=fun _ _ h=>h
theorem Rel.own{i:Nat}{p:Addr}{o:HO}{d:D}(R:Rel cl B σ w ρ S)(hp:w.H p=none)(t:Top cl w o d):Rel cl B (σ.set i (some (.ref p))) (w.addAs p o (.slot i)) (ρ.set i (some (true,d))) S:=by
 have ff:=zbx (w:=w) (p:=p) (o:=o) (r:=.slot i) hp
 have kp:∀a u,w.H a=some u->w.ow a≠some (.slot i)->(w.addAs p o (.slot i)).H a=some u/\(w.addAs p o (.slot i)).ow a=w.ow a:=fun a u ha hk=>by
  have n:a≠p:=zam ha hp;refine ⟨?_,?_⟩
  ·show upd w.H p o a=_;rw [zag n];exact ha
  ·show (if a=p then _ else if w.ow a=some (Root.slot i) then some Root.far else w.ow a)=_;rw [if_neg n,if_neg hk]
 have hBp:B.Fr p=none:=by
  cases z:B.Fr p with
  | none=>rfl
  | some u=>have:=(R.wd.fr p u z).1;rw [hp] at this;cases this
 refine ⟨⟨fun a u h=>?_,fun a r h=>?_,R.wd.len,fun n ob h=>?_⟩,by rw [yay,yay];exact R.len,fun j b e hj=>?_⟩
 ·have hne:w.ow a≠some (.slot i):=fun z=>by
   rcases R.wd.own a _ z with y | y
   ·cases y
   ·rw [h] at y;cases y
  have:=kp a u (R.wd.fr a u h).1 hne;exact ⟨this.1,this.2.trans (R.wd.fr a u h).2⟩
 ·have h':(if a=p then some (Root.slot i) else if w.ow a=some (Root.slot i) then some Root.far else w.ow a)=some r:=h;split at h'
  ·rename_i e;rw [e];exact .inr hBp
  ·split at h'
   ·cases h';exact .inl rfl
   ·exact R.wd.own a r h'
 ·obtain ⟨a,e,x⟩:=R.wd.obj n ob h;exact ⟨a,e,x.keep ff fun b u hb hn=>kp b u hb fun z=>by rwa [z] at hn⟩
 ·by_cases hij:i=j
  ·subst hij
   have hlt:i<ρ.length:=by
    have:=(yan.mp hj).1;rwa [yay] at this
   rw [yaA hlt] at hj;cases hj;exact ⟨.ref p,by rw [yaA (by rw [R.len];exact hlt)],p,o,rfl,if_pos rfl,zat,t.up ff⟩
  ·rw [yaP hij] at hj ⊢;obtain ⟨v,e1,x⟩:=R.slots j b e hj;refine ⟨v,e1,x.keep ff fun a u ha hr=>?_⟩;have:=kp a u ha (by rw [hr];exact fun z=>hij (by cases z;rfl));exact ⟨this.1,this.2.trans hr⟩
noncomputable def Wd.mut(w:Wd)(p:Addr)(o:HO):Wd:=⟨upd w.H p o,w.ow,w.mu⟩
def zdx{p:Addr}{o:HO}(h:w.ow p≠none):Fut w (w.mut p o) where
 keep:=fun a u ha hk=>⟨by
  show upd w.H p o a=_
  rw [zag (fun z=>h (by rw [<-z];exact hk))];exact ha,hk⟩
 mu:=fun _ _ h=>h
theorem Rel.mut{i:Nat}{p:Addr}{o:HO}{d d0:D}(R:Rel cl B σ w ρ S)(hs:σ[i]?=some (some (.ref p)))(hk:w.ow p=some (.slot i))(t:Top cl w o d):Rel cl B σ (w.mut p o) (ρ.set i (some (true,d))) S:=by
 have ff:=zdx (w:=w) (p:=p) (o:=o) (by rw [hk];exact yaG _)
 have kp:∀a u,w.H a=some u->w.ow a≠some (.slot i)->(w.mut p o).H a=some u/\(w.mut p o).ow a=w.ow a:=fun a u ha hn=>⟨by
  show upd w.H p o a=_
  rw [zag (fun z=>hn (by rw [z];exact hk))];exact ha,rfl⟩
 have hBp:B.Fr p=none:=(R.wd.own p _ hk).elim (fun z=>by cases z) fun z=>z
 refine ⟨⟨fun a u h=>?_,R.wd.own,R.wd.len,fun n ob h=>?_⟩,by rw [yay];exact R.len,fun j b e hj=>?_⟩
 ·have hne:w.ow a≠some (.slot i):=fun z=>by
   rcases R.wd.own a _ z with y | y
   ·cases y
   ·rw [h] at y;cases y
  have:=kp a u (R.wd.fr a u h).1 hne;exact ⟨this.1,(R.wd.fr a u h).2⟩
 ·obtain ⟨a,e,x⟩:=R.wd.obj n ob h;exact ⟨a,e,x.keep ff fun b u hb hn=>kp b u hb fun z=>by rwa [z] at hn⟩
 ·by_cases hij:i=j
  ·subst hij
   have hlt:i<ρ.length:=by
    have:=(yan.mp hj).1;rwa [yay] at this
   rw [yaA hlt] at hj;cases hj;exact ⟨.ref p,hs,p,o,rfl,hk,zat,t.up ff⟩
  ·rw [yaP hij] at hj;obtain ⟨v,e1,x⟩:=R.slots j b e hj;refine ⟨v,e1,x.keep ff fun a u ha hr=>?_⟩;have:=kp a u ha (by rw [hr];exact fun z=>hij (by cases z;rfl));exact ⟨this.1,this.2.trans hr⟩
noncomputable def Wd.free(w:Wd)(r:Root):Wd:=⟨w.H,fun a=>if w.ow a=some r then none else w.ow a,w.mu⟩
def zmp{r:Root}:Fut w (w.free r) where
 keep:=fun a u ha hk=>⟨ha,by
  show (if w.ow a=some r then none else w.ow a)=none
  rw [hk];rfl⟩
 mu:=fun _ _ h=>h
theorem Top.shd{o:HO}{d:D}{a:Addr}(h:w.H a=some o)(k:w.ow a=none):Top cl w o d->Shd cl w (.ref a) d
 | .lst t=>.lst h k t
 | .dicK t=>.dicK h k t
 | .dicT t=>.dicT h k t
 | .dicN=>.dicN h k
theorem Rel.frz1(R:Rel cl B σ w ρ S)(i:Nat):∃w',w'.H=w.H/\Fut w w'/\Rel cl B σ w' (frz1 ρ i) S:=by
 unfold S2.frz1;split
 ·rename_i d hd;have ff:=zmp (w:=w) (r:=.slot i);have kp:∀a u,w.H a=some u->w.ow a≠some (.slot i)->(w.free (.slot i)).H a=some u/\(w.free (.slot i)).ow a=w.ow a:=fun a u ha hn=>⟨ha,if_neg hn⟩
  refine ⟨w.free (.slot i),rfl,ff,⟨fun a u h=>?_,fun a r h=>?_,R.wd.len,fun n ob h=>?_⟩,by rw [yay];exact R.len,fun j b e hj=>?_⟩
  ·have hne:w.ow a≠some (.slot i):=fun z=>by
    rcases R.wd.own a _ z with y | y
    ·cases y
    ·rw [h] at y;cases y
   have:=kp a u (R.wd.fr a u h).1 hne;exact ⟨this.1,this.2.trans (R.wd.fr a u h).2⟩
  ·have h':(if w.ow a=some (Root.slot i) then none else w.ow a)=some r:=h;split at h'
   ·cases h'
   ·exact R.wd.own a r h'
  ·obtain ⟨a,e,x⟩:=R.wd.obj n ob h;exact ⟨a,e,x.keep ff fun b u hb hn=>kp b u hb fun z=>by rwa [z] at hn⟩
  ·by_cases hij:i=j
   ·subst hij;have hlt:i<ρ.length:=(yan.mp hd).1;rw [yaA hlt] at hj;cases hj;obtain ⟨v,e1,a,o,rfl,h1,h2,t⟩:=R.slots i true d hd;refine ⟨.ref a,e1,(t.up ff).shd h2 ?_⟩;show (if w.ow a=some (Root.slot i) then none else w.ow a)=none;rw [if_pos h1]
   ·rw [yaP hij] at hj;obtain ⟨v,e1,x⟩:=R.slots j b e hj;refine ⟨v,e1,x.keep ff fun a u ha hr=>?_⟩;have:=kp a u ha (by rw [hr];exact fun z=>hij (by cases z;rfl));exact ⟨this.1,this.2.trans hr⟩
 ·exact ⟨w,rfl,Fut.refl _,R⟩
theorem Rel.frz:∀(is:List Nat) {w:Wd} {ρ:Env},Rel cl B σ w ρ S->∃w',w'.H=w.H/\Fut w w'/\Rel cl B σ w' (frz is ρ) S
 | [],w,ρ,R=>⟨w,rfl,Fut.refl _,R⟩
 | i::is,w,ρ,R=>by
  obtain ⟨w1,e1,f1,R1⟩:=R.frz1 i;obtain ⟨w2,e2,f2,R2⟩:=Rel.frz is R1;exact ⟨w2,e2.trans e1,f1.trans f2,R2⟩
end
section
variable{X:Cx}{cl:Cf}{E:St->XK}{own:Bool}{st:Stmt}{zbq:List Stmt}{f g:Fs}{e:Expr}{fe:Fe}{pos pos':Pos}
def ztl(is:List Nat)(h:PS X st (tS cl E own f)):PS X st (tS cl E own (sFz is f)):=by
 refine PS.imp h ?_;rintro De σ H ⟨B,w,ρ,S,rfl,R,q⟩;obtain ⟨w',e',f',R'⟩:=R.frz is;exact ⟨B,w',frz is ρ,S,e',R',zib.up f' q⟩
def zp8:PSs X [] (tS cl E own sNx):=by
 refine PSs.imp zoe ?_;rintro De σ H ⟨B,w,ρ,S,rfl,R,q⟩;exact q σ w R (Fut.refl _)
def znR(h1:PS X st (tS cl E own f))(h2:PSs X zbq (tS cl E own g)):PSs X (st::zbq) (tS cl E own (zan f g)):=by
 refine PSs.imp (zlt h1 h2) ?_;rintro De σ H ⟨B,w,ρ,S,rfl,R,q⟩;refine ⟨B,w,ρ,S,rfl,R,?_⟩;unfold zan at q
 cases hf:f ρ S with
 | nx ρ' S' =>
  rw [hf] at q;intro σ' w' R' F';exact ⟨B,w',ρ',S',rfl,R',zib.up F' q⟩
 | bk ρ' S'=>rwa [hf] at q
 | ct ρ' S'=>rwa [hf] at q
 | rt d S'=>rwa [hf] at q
 | ex c ρ' S'=>rwa [hf] at q
 | bad=>rwa [hf] at q
def znO:PS X (.Pass pos) (tS cl E own sNx):=by
 refine PS.imp zog ?_;rintro De σ H ⟨B,w,ρ,S,rfl,R,q⟩;exact q σ w R (Fut.refl _)
def zqa:PS X (.Break pos) (tS cl E own sBk):=by
 refine PS.imp zlw ?_;rintro De σ H ⟨B,w,ρ,S,rfl,R,q⟩;exact q σ w R (Fut.refl _)
def zuy{i:Nat}{De:Ends}{σ:St}{H:Hp}(q:tS cl E own (zcc i false fe) De σ H):zpw (tE cl E fe) (zkr i) De σ H:=by
 obtain ⟨B,w,ρ,S,rfl,R,q⟩:=q;refine ⟨B,w,ρ,S,rfl,R,?_⟩;unfold zcc at q
 cases hf:fe ρ S with
 | bad=>rwa [hf] at q
 | exc c S1=>rw [hf] at q;exact fun w' R' F'=>q σ w' R' F'
 | ok d S1 =>
  rw [hf] at q;intro v w' R' F' h';exact q _ w' (R'.put h') F'
def zsg{i:Nat}{De:Ends}{σ:St}{H:Hp}(q:tS cl E own (zcc i true fe) De σ H):zpw (tN cl E fe) (zkr i) De σ H:=by
 obtain ⟨B,w,ρ,S,rfl,R,q⟩:=q;refine ⟨B,w,ρ,S,rfl,R,?_⟩;unfold zcc at q
 cases hf:fe ρ S with
 | bad=>rwa [hf] at q
 | exc c S1=>rw [hf] at q;exact fun w' R' F'=>q σ w' R' F'
 | ok d S1 =>
  rw [hf] at q;intro p o w' R' F' hp t;exact q _ (w'.addAs p o (.slot i)) (R'.own hp t) (F'.trans (zbx hp))
def zqc{i:Nat}{x:Str}(hN:X.N.Nodup)(hi:X.N[i]?=some x)(hx:Loc X.env.scope x)(he:PE X e (tE cl E fe))(hs:swapsWith e (some (.Name x pos')) pos.line X.env=pure false)(hf:X.fn x=true\/X.env.scope.names.lookup x=some .local):PS X (.Assign [.Name x pos'] e pos) (tS cl E own (zcc i false fe)) :=
 PS.imp (zm3 hN hi hx he hs hf) fun _ _ _ q=>zuy q
def zja{i:Nat}{x:Str}(hN:X.N.Nodup)(hi:X.N[i]?=some x)(hx:Loc X.env.scope x)(he:PE X e (tN cl E fe))(hs:swapsWith e (some (.Name x pos')) pos.line X.env=pure false)(hf:X.fn x=true\/X.env.scope.names.lookup x=some .local):PS X (.Assign [.Name x pos'] e pos) (tS cl E own (zcc i true fe)) :=
 PS.imp (zm3 hN hi hx he hs hf) fun _ _ _ q=>zsg q
def zmW(he:PE X e (tE cl E fe))(hs:swapsWith e none pos.line X.env=pure false):PS X (.Expr e pos) (tS cl E own (zmZ fe)):=by
 refine PS.imp (zjA he hs) ?_;rintro De σ H ⟨B,w,ρ,S,rfl,R,q⟩;refine ⟨B,w,ρ,S,rfl,R,?_⟩;unfold zmZ at q
 cases hf:fe ρ S with
 | bad=>rwa [hf] at q
 | exc c S1=>rw [hf] at q;exact fun w' R' F'=>q σ w' R' F'
 | ok d S1=>rw [hf] at q;exact fun v w' R' F' _=>q σ w' R' F'
def zp7(he:PE X e (tE cl E fe)):PS X (.Return (some e) pos) (tS cl E false (zbh fe)):=by
 refine PS.imp (zjy he) ?_;rintro De σ H ⟨B,w,ρ,S,rfl,R,q⟩;refine ⟨B,w,ρ,S,rfl,R,?_⟩;unfold zbh at q
 cases hf:fe ρ S with
 | bad=>rwa [hf] at q
 | exc c S1=>rw [hf] at q;exact fun w' R' F'=>q σ w' R' F'
 | ok d S1=>rw [hf] at q;exact fun v w' R' F' h'=>q v w' R'.wd F' h'
def znK(he:PE X e (tN cl E fe)):PS X (.Return (some e) pos) (tS cl E true (zbh fe)):=by
 refine PS.imp (zjy he) ?_;rintro De σ H ⟨B,w,ρ,S,rfl,R,q⟩;refine ⟨B,w,ρ,S,rfl,R,?_⟩;unfold zbh at q
 cases hf:fe ρ S with
 | bad=>rwa [hf] at q
 | exc c S1=>rw [hf] at q;exact fun w' R' F'=>q σ w' R' F'
 | ok d S1 =>
  rw [hf] at q;intro p o w' R' F' hp t;have ff:=zbx (w:=w') (p:=p) (o:=o) (r:=.slot 0) hp;exact q (.ref p) (w'.addAs p o (.slot 0)) (Rel.own (i:=0) R' hp t).wd (F'.trans ff) ⟨p,o,0,rfl,if_pos rfl,zat,t.up ff⟩
def znJ{i:Nat}{x:Str}(hN:X.N[i]?=some x)(hv:Vis X.env.scope x)(hd:(x == ("__debug__":Str))=false)(hcd:(x == ("__classdict__":Str))=false):PS X (.Return (some (.Name x pos')) pos) (tS cl E true (zjn i)):=by
 refine PS.imp (zjy (zca hN hv hd hcd)) ?_;rintro De σ H ⟨B,w,ρ,S,rfl,R,q⟩;unfold zjn at q;split at q
 ·rename_i d hd;obtain ⟨v,e1,a,o,rfl,h1,h2,t⟩:=R.slots i true d hd;exact ⟨_,e1,q _ w R.wd (Fut.refl _) ⟨a,o,i,rfl,h1,h2,t⟩⟩
 ·exact q.elim
def znL:PS X (.Return none pos) (tS cl E false zlm):=by
 refine PS.imp zof ?_;rintro De σ H ⟨B,w,ρ,S,rfl,R,q⟩;exact q .non w R.wd (Fut.refl _) .non
def ztk{c:Expr}{a b:List Stmt}{fc:Fe}(hc:PT X c (tTr cl E fc))(ha:PSs X a (tS cl E own f))(hb:PSs X b (tS cl E own g)):PS X (.If c a b pos) (tS cl E own (sIf fc f g)):=by
 refine PS.imp (ztB hc ha hb) ?_;rintro De σ H ⟨B,w,ρ,S,rfl,R,q⟩;refine ⟨B,w,ρ,S,rfl,R,?_⟩;unfold sIf at q
 cases hg:fc ρ S with
 | bad=>rwa [hg] at q
 | exc c S1=>rw [hg] at q;exact fun w' R' F'=>q σ w' R' F'
 | ok d S1 =>
  rw [hg] at q;dsimp only at q ⊢
  cases hb:isB d with
  | none=>rw [hb] at q;exact q.elim
  | some b =>
   rw [hb] at q;intro w1 R1 F1
   cases b with
   | true=>exact zni ⟨B,w1,ρ,S1,rfl,R1,zib.up F1 q⟩
   | false=>exact znj ⟨B,w1,ρ,S1,rfl,R1,zib.up F1 q⟩
end
noncomputable def zln(i:Nat)(fe:Fe):Fs:=fun ρ S=>match ρ[i]? with
 | some (some (true,.lst l))=>(match fe ρ S with
  | .ok d S'=>if zaX l.length then .nx (ρ.set i (some (true,.lst (l++[d])))) S' else .bad
  | .exc c S'=>.ex c ρ S' | .bad=>.bad)
 | _=>.bad
section
variable{X:Cx}{cl:Cf}{E:St->XK}{own:Bool}{e:Expr}{fe:Fe}{pos pos':Pos}
def zhw{n:Nat}(h:zaX n=true):n<sizeLine:=Nat.lt_of_le_of_lt (yah h) (by decide)
def Rel.list{B:Base}{σ:St}{w:Wd}{ρ:Env}{S:Sto}{i:Nat}{l:List D}(R:Rel cl B σ w ρ S)(h:ρ[i]?=some (some (true,.lst l))):∃a xs,σ[i]?=some (some (.ref a))/\w.ow a=some (.slot i)/\w.H a=some (.lst xs)/\Shds cl w xs l:=by
 obtain ⟨v,e1,a,o,rfl,h1,h2,t⟩:=R.slots i true _ h
 cases t with
 | lst t=>exact ⟨a,_,e1,h1,h2,t⟩
def zqd{i:Nat}{x:Str}{ap cp:Pos}(hN:X.N[i]?=some x)(hv:Vis X.env.scope x)(hd:(x == ("__debug__":Str))=false)(hcd:(x == ("__classdict__":Str))=false)(he:PE X e (tE cl E fe))
  (hpl:zbf e=true) (hln:(ap.endLine == cp.line)=true):PS X (.Expr (.Call (.Attribute (.Name x pos') "append" ap) [e] [] cp) pos) (tS cl E own (zln i fe)):=by
 refine PS.imp (zjA (zq4 (es:=[]) PySem.F.plainAttrs_list PySem.F.slot_list_append PySem.F.type_list_append zjW (zca hN hv hd hcd) (zbZ he zea (za1 hpl)) (hfew:=zkx (by simp [hpl]) (by simp)) (hline:=hln) (hs:=za1 hpl) (hplain:=rfl))) ?_;rintro De σ H ⟨B,w,ρ,S,rfl,R,q⟩;unfold zln at q;split at q
 ·rename_i l hl;obtain ⟨a,xs,e1,h1,h2,t⟩:=R.list hl;refine ⟨_,e1,.inl ⟨rfl,_,SqL.of h2⟩,B,w,ρ,S,rfl,R,?_⟩
  cases hf:fe ρ S with
  | bad=>rwa [hf] at q
  | exc c S1=>rw [hf] at q;exact fun w' R' F'=>q σ w' R' F'
  | ok d S1 =>
   rw [hf] at q;intro v w' R' F' h';dsimp only at q
   cases hz:zaX l.length with
   | false=>rw [hz,if_neg (by decide)] at q;exact q.elim
   | true =>
    rw [hz,if_pos rfl] at q;obtain ⟨a',xs',e1',h1',h2',t'⟩:=R'.list hl;rw [e1] at e1';cases e1';refine ⟨a,xs',v,rfl,rfl,h2',by rw [t'.length];exact zhw hz,?_⟩;exact q σ (w'.mut a (.lst (xs'++[v]))) (R'.mut (d0:=.non) e1 h1' (.lst (t'.append (.cons h' .nil)))) (F'.trans (zdx (by rw [h1'];exact yaG _)))
 ·exact q.elim
end
end S2
namespace L2
open PySem PySem.Spec PyProof.Rows
section
variable{prog:Program}{w:World}{A:Around}{E:Z5}{s:Shared}
def zle{it t:Addr}{j:Nat}{vs:Array Value}{v:Value}{Q:Z5}(st:s.heap.IsTupleIter it t j)(tp:s.heap.IsTuple t vs)(e:vs[j]?=some v)
  (q:∀h',h'.IsTupleIter it t (j+1)->Heap.SameBut it s.heap h'->Q v { s with heap:=h' }):wpAny (model prog w) A (Builtin.SmallTypes.nextOf (.ref it)) Q E s:=by
 obtain ⟨o1,g1,c1,d1⟩:=id st;obtain ⟨o2,g2,_,n2,d2⟩:=tp;unfold Builtin.SmallTypes.nextOf;refine yaa (yaT (name:=Str.ofString "__next__") st.typeIs ybz (yaN ybz st.typeIs F.entry_tuple_iterator_next ?_ (F.args_tuple_iterator_next_1 _)));show wpAny _ _ (field (.ref it) 0 >>= _) _ _ s;refine yaa (ybw g1 d1 (x:=.ref t) rfl ?_);show wpAny _ _ (if (Value.ref t == Value.none)=true then _ else _) _ _ s;rw [if_neg (show ¬ ((Value.ref t == Value.none)=true) from fun z=>ya1 z)];show wpAny _ _ (field (.ref it) 1 >>= _) _ _ s;refine yaa (ybw g1 d1 (x:=.int j 0) rfl ?_);show wpAny _ _ (seqItems? (.ref t) >>= _) _ _ s;refine yaa (ybJ g2 d2 ?_);simp only [yba,e];refine yaa (ycr g1 d1 (by simp) (yad ⟨v,rfl,yad (q _ ?_ (Heap.SameBut.update ..))⟩));refine ⟨_,ybl _ g1 (ycu (ybd d1 _)),(ycX ..).trans c1,?_⟩;rw [ybd d1];simp [rawInt]
def ziY{it t:Addr}{j:Nat}{vs:Array Value}{Q:Z5}(hh:A.handled=none)(st:s.heap.IsTupleIter it t j)(tp:s.heap.IsTuple t vs)(e:vs[j]?=none)
  (q:∀h' x,Heap.ExtBut it s.heap h'->(∃o,h'.get? x=some o/\o.cls=.type "StopIteration")->E (.ref x) { s with heap:=h' }):wpAny (model prog w) A (Builtin.SmallTypes.nextOf (.ref it)) Q E s:=by
 obtain ⟨o1,g1,c1,d1⟩:=id st;obtain ⟨o2,g2,_,n2,d2⟩:=tp;unfold Builtin.SmallTypes.nextOf;refine yaa (yaT (name:=Str.ofString "__next__") st.typeIs ybz (yaN ybz st.typeIs F.entry_tuple_iterator_next ?_ (F.args_tuple_iterator_next_1 _)));show wpAny _ _ (field (.ref it) 0 >>= _) _ _ s;refine yaa (ybw g1 d1 (x:=.ref t) rfl ?_);show wpAny _ _ (if (Value.ref t == Value.none)=true then _ else _) _ _ s;rw [if_neg (show ¬ ((Value.ref t == Value.none)=true) from fun z=>ya1 z)];show wpAny _ _ (field (.ref it) 1 >>= _) _ _ s;refine yaa (ybw g1 d1 (x:=.int j 0) rfl ?_);show wpAny _ _ (seqItems? (.ref t) >>= _) _ _ s;refine yaa (ybJ g2 d2 ?_);simp only [yba,e];refine yaa (ycC (yaa (ycr g1 d1 (by simp) ?_)));show wpAny _ _ (newExc (.type "StopIteration") [] >>= _) _ _ _;refine yaa ?_;simp only [newExc,newTuple];refine yaa (yaR ?_ (by size_fits));refine yaa (m:=firstArgMember _ _) (ycp (a:=Value.none) ?_ ?_)
 ·first | rfl | (simp only [firstArgMember];rfl)
 refine yaR ?_ (by size_fits);simp only [raiseNew];refine yaa (wpAny_handled ?_)
 first | rw [show A.in1.handled=none from hh] | rw [hh]
 refine yaa (yad (wpAny_throw (q _ _ (((Heap.SameBut.update ..).extBut.push _).push _) ⟨_,yam _ rfl,rfl⟩)))
def zgp(hh:A.handled=none)(it t:Addr)(ne:t≠it)(vs:Array Value):Draws prog w A it [it,t] vs.size (fun j v=>vs[j]?=some v) (fun j h=>h.IsTupleIter it t j/\h.IsTuple t vs) where
 live:=fun _ _ st=>by obtain ⟨⟨o,ho,_⟩,_⟩:=st;exact ⟨o,ho⟩
 frame:=fun _ _ _ st hk=>⟨st.1.at fun o e=>hk it (by simp) o e,by obtain ⟨o,ho,r⟩:=st.2;exact ⟨o,hk t (by simp) o ho,r⟩⟩
 item:=fun j s Q E hj st hQ=>zle st.1 st.2 (v:=vs[j]) (by simp [hj]) fun h' st' sb=>hQ _ h' s.toks (by simp [hj]) ⟨st',by obtain ⟨o,ho,r⟩:=st.2;exact ⟨o,(sb.2 t ne).trans ho,r⟩⟩ sb
 done:=fun s Q E st hE=>ziY hh st.1 st.2 (by simp) hE
def zgl(l:Addr)(items:Array Value)(n:Nat)(dct:Option Addr)(sl:Array (Option Value)) :
  Meets (Builtin.«enumerate.__new__» ⟨[.type "enumerate",.ref l],[]⟩) (fun _ R s=>s.heap.get? l=some { cls:=.type "tuple",dict:=dct,data:=.seq items n,slots:=sl } ∧
   R (.ok (.ret (.ref (s.heap.push { cls:=.type "tuple_iterator",data:=.fields #[.ref l,.int 0 0] }).objs.size)))
    { s with heap:=(s.heap.push { cls:=.type "tuple_iterator",data:=.fields #[.ref l,.int 0 0] }).push { cls:=.type "enumerate",data:=.fields #[.none,.bool false,.ref s.heap.objs.size,rawInt 0,.none,.none] } }) :=
 .of_wp fun prog w A R s h=>by
  obtain ⟨hp,g,d,tk,os⟩:=s;obtain ⟨hl,h⟩:=h;have hsub:=sub_enumerate;have hT:Heap.IsTuple (Shared.heap ⟨hp,g,d,tk,os⟩) l items:=⟨_,hl,rfl,n,rfl⟩
  wp_walk using yb9 hl
  refine wpAny_stack_any fun st=>yad ?_
  split
  ·rename_i c _ _ _ _ _
   cases (c == Value.type "enumerate")<;>(wp_walk using yb9 hl,ycb hT;exact ⟨_,rfl,h⟩)
  ·wp_walk using yb9 hl,ycb hT;exact ⟨_,rfl,h⟩
def zfz{l:Addr}{items:Array Value}{Q:Z5}(hL:s.heap.IsTuple l items)
  (h:∀h',IsEnum h' (s.heap.objs.size+1) s.heap.objs.size 0 .none->h'.IsTupleIter s.heap.objs.size l 0->h'.objs.size=s.heap.objs.size+2->(∀b o,s.heap.get? b=some o->h'.get? b=some o)->Q (.ref (s.heap.objs.size+1)) { s with heap:=h' }) :
  wpAny (model prog w) A (call (.type "enumerate") [.ref l]) Q E s:=by
 obtain ⟨⟨c,dct,dt,sl⟩,hl,hc,n,hd⟩:=hL;simp only at hc hd;subst hc hd;refine callType_new F.called_enumerate (by decide) (F.typeCall_enumerate_1 _) (F.newCall_enumerate_1 _) (fun obj=>F.args_object_init_2 obj _) F.entry_enumerate_new (zgl l items n dct sl) ⟨hl,?_⟩;generalize hp1:s.heap.push { cls:=.type "tuple_iterator",data:=.fields #[.ref l,.int 0 0] }=h1
 have hz:h1.objs.size=s.heap.objs.size+1:=by rw [<-hp1];exact ya4 ..
 have k1:∀b o,s.heap.get? b=some o->h1.get? b=some o:=fun b o x=>by rw [<-hp1];exact yae _ x
 have i1:h1.get? s.heap.objs.size=some { cls:=.type "tuple_iterator",data:=.fields #[.ref l,.int 0 0] }:=by rw [<-hp1];exact yam _ rfl
 show _/\_;rw [hz]
 have he:IsEnum (h1.push { cls:=.type "enumerate",data:=.fields #[.none,.bool false,.ref s.heap.objs.size,rawInt 0,.none,.none] }) (s.heap.objs.size+1) s.heap.objs.size 0 .none:=by
  rw [<-hz];exact yam _ rfl
 exact ⟨⟨_,he,rfl⟩,h _ he ⟨_,yae _ i1,rfl,rfl⟩ (by rw [ya4,hz]) fun b o x=>yae _ (k1 b o x)⟩
end
section
variable{X:Cx}{pins:Z3}{σ:St}{H:Hp}{s:Shared}
def Inv.turnedL{t':Nat}{h':Heap}{ch:List Addr}(I:Inv X pins σ H s)(k:∀b o,b ∉ ch->s.heap.get? b=some o->h'.get? b=some o)(hf:∀b∈ch,zk4 X pins H b):Inv X pins σ H { s with heap:=h',toks:=t' }:=by
 have nit:∀b u,H b=some u->b ∉ ch:=fun b u e z=>by rw [(hf b z).1] at e;cases e
 refine I.step (g':=s.gens) (d':=s.drawn) (ch:=ch) (fun b hb=>?_) (fun b o _ _ hc e _=>k b o hc e) (fun b o _ _ hc e _=>⟨o.slots,k b o hc e⟩) (fun _ _ _ _ n=>n) (fun b o hc e=>⟨o,k b o hc e⟩) (fun _ _ e=>e) (fun _ _ _ e=>e) (fun b ps e=>⟨#[],by rw [e];simp⟩) (fun m hm=>?_) (fun b u e=>?_) I.bare
 ·obtain ⟨f0,f1,f2,f3,f4,f5⟩:=hf b hb;exact ⟨f3,f1,f4,f5⟩
 ·obtain ⟨o,es,ep,ho,r⟩:=hm;exact ⟨o,es,ep,k _ o (fun z=>(hf _ z).2.1 rfl) ho,r⟩
 ·refine (I.hok b u e).stay (fun c v hc q=>k c v ?_ q) (fun _ q=>q) fun _ _ q=>q
  rcases hc with z | z
  ·rw [z];exact nit b u e
  ·exact nit c _ z
noncomputable def ItE(S:Hp->Addr->List V->Prop)(a:Addr):It :=
 ⟨fun i H=>∃xs x,S H a xs/\xs[i]?=some x,fun i H x H'=>∃t y,x=.ref t/\H t=none/\H'=upd H t (.tup [.int (i:Int),y])/\∀xs,S H a xs->xs[i]?=some y,fun i H=>∃xs,S H a xs/\xs.length<=i⟩
def zhY{i:Nat}{e it T:Addr}{h1 h2:Heap}{tk:Nat}{x:Value}{y:V}(I:Inv X pins σ H s)(hf:∀b∈[e,it],zk4 X pins H b)(hT:T=s.heap.objs.size)(te:h1.get? T=some { cls:=.type "tuple",data:=.seq #[.int i tk,x] })
  (k:∀b o,b≠e->b≠it->s.heap.get? b=some o->h1.get? b=some o) (sb:Heap.SameBut e h1 h2) (ne:T≠e) (ry:zaJ y x):Inv X pins σ (upd H T (.tup [.int (i:Int),y])) { s with heap:=h2,toks:=tk+1 }/\H T=none:=by
 have fr:H T=none:=by rw [hT];exact I.hok.fresh (yal _)
 refine ⟨?_,fr⟩
 have I1:Inv X pins σ H { s with heap:=h2,toks:=tk+1 }:=I.turnedL (ch:=[e,it]) (fun b o hb q=>by
  simp only [yap,yaJ,ybF,not_or] at hb
  exact (sb.2 b hb.1).trans (k b o hb.1 hb.2 q)) hf
 refine I1.track fr (by rw [hT];exact I.sz) (by rw [hT];exact yaX I.lt) (fun z c q=>?_) (fun p hp=>?_) ?_
 ·obtain ⟨v,cq⟩:=I.cell z c q;rw [hT];exact yar cq.lt
 ·rw [hT];exact yar (yai (I.pin p hp).1)
 ·refine ⟨by show 2<=sizeLine;decide,[.int i tk,x],.cons ⟨tk,rfl⟩ (.cons ry .nil),?_⟩;exact ⟨_,(sb.2 T ne).trans te,rfl,_,rfl⟩
def zii{P:Program}{w:World}{K:PySem.W.Frag}{elts:List Expr}{x1:Nat}{pos:Pos}(a it e:Addr)(hei:e≠it):Turn P w K (.Tuple elts x1 pos) (ItE (SqL K) a) [e,it] e (fun i h=>(∃old,IsEnum h e it (i:Int) old)/\h.IsListIter it a i) where
 mem:=by simp
 obj:=fun i h st b hb=>by
  obtain ⟨⟨old,he⟩,o,ho,c,d⟩:=st;simp only [yap,yaJ,ybF] at hb
  rcases hb with rfl | rfl
  ·exact ⟨_,he,fun v z=>by cases z⟩
  ·exact ⟨o,ho,fun v z=>by rw [d] at z;cases z⟩
 keep:=fun i h h' st k=>by
  obtain ⟨⟨old,he⟩,hi⟩:=st;exact ⟨⟨old,k e (by simp) _ he⟩,hi.at fun o q=>k it (by simp) o q⟩
 item:=by
  intro X hP hw hK hc i pins s σ H E I hf st hg;subst hP hw hK;obtain ⟨xs,x,hq,hx⟩:=hg;obtain ⟨⟨old,he⟩,hi⟩:=st;obtain ⟨its,rv,p,hz⟩:=I.list hq;obtain ⟨u,hu,ru⟩:=rv.get hx;refine wpAny_pyNext_enum_item he hi p.isList (x:=u) (by simpa using hu) hei fun h1 ho hi1 ht1 hz1 k1=>?_
  have neT:s.heap.objs.size≠e:=yaX (yai he);refine ⟨_,rfl,wpAny_letOwnedTupleGo_enum ho fun h2 he2 sb=>?_⟩;obtain ⟨I2,fr⟩:=zhY (h2:=h2) (y:=x) I hf rfl ht1 k1 sb neT ru;refine ⟨.ref s.heap.objs.size,_,I2,rfl,⟨_,x,rfl,fr,rfl,fun ys hy=>by rw [I.list_inj hy hq];exact hx⟩,⟨⟨u,by simpa using he2⟩,hi1.at fun o q=>(sb.2 it (Ne.symm hei)).trans q⟩,fun b hb=>?_⟩;rw [zag]
  ·exact (hf b hb).1
  ·rintro rfl;simp only [yap,yaJ,ybF] at hb
   rcases hb with z | z
   ·exact neT z
   ·obtain ⟨o,q,_⟩:=hi;exact absurd (yai q) (by rw [<-z];exact yaY _)
 done:=by
  intro X hP hw hK hc i pins s σ H E I hf st hg;subst hP hw hK;obtain ⟨xs,hq,hx⟩:=hg;obtain ⟨⟨old,he⟩,hi⟩:=st;obtain ⟨its,rv,p,hz⟩:=I.list hq;have hl:=rv.length;obtain ⟨f0,f1,f2,f3,f4,f5⟩:=hf it (by simp);exact wpAny_pyNext_enum_end (I.ok.hd hc) he hi p.isList (by simp;omega) fun h' eb=>⟨rfl,I.turned (t':=s.toks) (fun b o hb q=>eb b o hb q) f0 f1 f3 f4 f5⟩
 self:=fun _ _ _ _ _ st h=>by
  obtain ⟨⟨old,he⟩,_⟩:=st;exact ycq he h
def zih{P:Program}{w:World}{K:PySem.W.Frag}{elts:List Expr}{x1:Nat}{pos:Pos}(a it e:Addr)(hei:e≠it):Turn P w K (.Tuple elts x1 pos) (ItE (SqT K) a) [e,it] e (fun i h=>(∃old,IsEnum h e it (i:Int) old)/\h.IsTupleIter it a i) where
 mem:=by simp
 obj:=fun i h st b hb=>by
  obtain ⟨⟨old,he⟩,o,ho,c,d⟩:=st;simp only [yap,yaJ,ybF] at hb
  rcases hb with rfl | rfl
  ·exact ⟨_,he,fun v z=>by cases z⟩
  ·exact ⟨o,ho,fun v z=>by rw [d] at z;cases z⟩
 keep:=fun i h h' st k=>by
  obtain ⟨⟨old,he⟩,hi⟩:=st;exact ⟨⟨old,k e (by simp) _ he⟩,hi.at fun o q=>k it (by simp) o q⟩
 item:=by
  intro X hP hw hK hc i pins s σ H E I hf st hg;subst hP hw hK;obtain ⟨xs,x,hq,hx⟩:=hg;obtain ⟨⟨old,he⟩,hi⟩:=st;obtain ⟨its,rv,p,hz⟩:=I.tuple hq;obtain ⟨u,hu,ru⟩:=rv.get hx
  have hlt:i<its.toArray.size:=by
   have:=(yan.mp hu).1;simpa using this
  have nat':a≠it:=by
   rintro rfl;obtain ⟨o,q,c,_⟩:=hi;obtain ⟨o2,q2,c2,_⟩:=id p;rw [q] at q2;cases q2;rw [c] at c2;simp at c2
  have nae:e ∉ [it,a]:=by
   simp only [yap,yaJ,ybF,not_or];refine ⟨hei,?_⟩;rintro rfl;obtain ⟨o2,q2,c2,_⟩:=id p;rw [he] at q2;cases q2;simp at c2
  refine wpAny_pyNext_enum_itemD (D:=zgp (A:=X.A.in1) (I.ok.hd hc) it a nat' its.toArray) he ⟨hi,show s.heap.IsTuple a its.toArray from p⟩ hlt hei nae fun u' h1 tk hu' ho hi1 ht1 hz1 k1=>?_
  have eu:u'=u:=by
   have:its[i]?=some u':=by simpa using hu'
   rw [hu] at this;exact (Option.some.inj this).symm
  subst eu;have neT:s.heap.objs.size≠e:=yaX (yai he);refine ⟨_,rfl,wpAny_letOwnedTupleGo_enum ho fun h2 he2 sb=>?_⟩;obtain ⟨I2,fr⟩:=zhY (h2:=h2) (y:=x) I hf rfl ht1 k1 sb neT ru;refine ⟨.ref s.heap.objs.size,_,I2,rfl,⟨_,x,rfl,fr,rfl,fun ys hy=>by rw [I.tuple_inj hy hq];exact hx⟩,⟨⟨u',by simpa using he2⟩,hi1.1.at fun o q=>(sb.2 it (Ne.symm hei)).trans q⟩,fun b hb=>?_⟩;rw [zag]
  ·exact (hf b hb).1
  ·rintro rfl;simp only [yap,yaJ,ybF] at hb
   rcases hb with z | z
   ·exact neT z
   ·obtain ⟨o,q,_⟩:=hi;exact absurd (yai q) (by rw [<-z];exact yaY _)
 done:=by
  intro X hP hw hK hc i pins s σ H E I hf st hg;subst hP hw hK;obtain ⟨xs,hq,hx⟩:=hg;obtain ⟨⟨old,he⟩,hi⟩:=st;obtain ⟨its,rv,p,hz⟩:=I.tuple hq;have hl:=rv.length;obtain ⟨f0,f1,f2,f3,f4,f5⟩:=hf it (by simp);have ty:s.TypeIs (.ref e) "enumerate":=⟨_,he,rfl⟩;unfold pyNext;refine yaa (ycB (yaT (name:=Str.ofString "__next__") ty F.slot_enumerate_next (yaN F.slot_enumerate_next ty F.entry_enumerate_next ?_ (F.args_enumerate_next_1 _))));show wpAny _ _ (field (.ref e) 2 >>= _) _ _ _;refine yaa (ybw he rfl (x:=.ref it) rfl ?_);refine yaa (ziY (I.ok.hd hc) hi (show s.heap.IsTuple a its.toArray from p) (by simp;omega) fun h' x eb hx'=>?_);obtain ⟨o,ho,hcl⟩:=hx';refine yaa (ybH (T:="StopIteration") (b:=true) ⟨o,ho,hcl⟩ isSubtype_stop ?_);exact yad ⟨rfl,I.turned (t':=s.toks) (fun b o hb q=>eb b o hb q) f0 f1 f3 f4 f5⟩
 self:=fun _ _ _ _ _ st h=>by
  obtain ⟨⟨old,he⟩,_⟩:=st;exact ycq he h
def zgu:bootBuiltins "enumerate" = some (.type "enumerate"):=by decide +kernel
noncomputable def zwJ(S:Hp->Addr->List V->Prop)(ta:TA):TI:=fun σ H R=>ta σ H fun vs H1=>∃a,vs=[.ref a]/\(∃xs,S H1 a xs)/\R (ItE S a) H1
def zlA{K:PySem.W.Frag}{elts:List Expr}{x1:Nat}{tp:Pos}{a:Expr}{ta:TA}{p pos:Pos}(hg:Gl X "enumerate")(hm:X.mg "enumerate" = none)(ha:PA X [a] ta)(hK:X.K=K:=by rfl)(hs:starEach [a] X.env=[(false,eval a X.env)]:=by rfl) :
  PI X (.Tuple elts x1 tp) (.Call (.Name "enumerate" p) [a] [] pos) (zwJ (SqL K) ta):=by
 subst hK;intro pins s σ H R I h;refine Call_ (zdH I hg hm zgu (ya3 (thn (ha pos pins s σ H _ I h) fun us s1 ⟨vs,H1,I1,r1,q1⟩=>?_) hs rfl));obtain ⟨b,e,⟨xs,hq⟩,q⟩:=q1;subst e
 cases r1 with
 | cons r rr =>
  cases rr;cases r;obtain ⟨its,rv,pl,hz⟩:=I1.list hq;refine call_enumerate_list pl.isList fun h' he hi hz' k=>ycq he ?_
  refine ⟨s1.heap.objs.size+1,[s1.heap.objs.size+1,s1.heap.objs.size],_,_,H1,rfl,I1.kept (t':=s1.toks) k,zii b _ _ (Nat.succ_ne_self _),⟨⟨_,he⟩,hi⟩,fun c hb=>?_,q⟩;simp only [yap,yaJ,ybF] at hb
  have hc:s1.heap.objs.size<=c:=by rcases hb with rfl | rfl<;>omega
  exact I1.fpOk hc (I1.hok.fresh hc)
def zlz{K:PySem.W.Frag}{elts:List Expr}{x1:Nat}{tp:Pos}{a:Expr}{ta:TA}{p pos:Pos}(hg:Gl X "enumerate")(hm:X.mg "enumerate" = none)(ha:PA X [a] ta)(hK:X.K=K:=by rfl)(hs:starEach [a] X.env=[(false,eval a X.env)]:=by rfl) :
  PI X (.Tuple elts x1 tp) (.Call (.Name "enumerate" p) [a] [] pos) (zwJ (SqT K) ta):=by
 subst hK;intro pins s σ H R I h;refine Call_ (zdH I hg hm zgu (ya3 (thn (ha pos pins s σ H _ I h) fun us s1 ⟨vs,H1,I1,r1,q1⟩=>?_) hs rfl));obtain ⟨b,e,⟨xs,hq⟩,q⟩:=q1;subst e
 cases r1 with
 | cons r rr =>
  cases rr;cases r;obtain ⟨its,rv,pl,hz⟩:=I1.tuple hq;refine zfz (show s1.heap.IsTuple b its.toArray from pl) fun h' he hi hz' k=>ycq he ?_
  refine ⟨s1.heap.objs.size+1,[s1.heap.objs.size+1,s1.heap.objs.size],_,_,H1,rfl,I1.kept (t':=s1.toks) k,zih b _ _ (Nat.succ_ne_self _),⟨⟨_,he⟩,hi⟩,fun c hb=>?_,q⟩;simp only [yap,yaJ,ybF] at hb
  have hc:s1.heap.objs.size<=c:=by rcases hb with rfl | rfl<;>omega
  exact I1.fpOk hc (I1.hok.fresh hc)
end
end L2
namespace S2
open PySem PySem.Spec PyProof.Rows L2
structure ItOk(cl:Cf)(w:Wd)(J:It)(ds:List D):Prop where
 go:∀w',Fut w w'->∀i,i<ds.length->J.go i w'.H
 stop:∀w',Fut w w'->J.stop ds.length w'.H
 yld:∀w',Fut w w'->∀i d x H',ds[i]?=some d->J.yld i w'.H x H'->∃w'',w''.H=H'/\Grow w' w''/\Shd cl w'' x d
noncomputable abbrev Fi:=Env->Sto->Out (List D)
noncomputable def tI(cl:Cf)(E:St->XK)(f:Fi):TI:=fun σ H R'=>∃B w ρ S,w.H=H/\Rel cl B σ w ρ S/\match f ρ S with
 | .ok ds S'=>∀J w',Rel cl B σ w' ρ S'->Fut w w'->ItOk cl w' J ds->R' J w'.H
 | .exc c S'=>∀w',Rel cl B σ w' ρ S'->Fut w w'->E σ (.ref (cl c)) none w'.H
 | .bad=>False
def PI.imp{X:Cx}{tg it:Expr}{t t':TI}(h:PI X tg it t)(i:∀σ H Q,t' σ H Q->t σ H Q):PI X tg it t':=fun pins s σ H Q I q=>h pins s σ H Q I (i _ _ _ q)
inductive Tg where | one (i:Nat) | tup (is:List Nat)
noncomputable def zdF:List Nat->List D->Env->Option Env
 | [],[],ρ=>some ρ
 | i::is,d::ds,ρ=>zdF is ds (ρ.set i (some (false,d)))
 | _,_,_=>none
noncomputable def Tg.put:Tg->Env->D->Option Env
 | .one i,ρ,d=>some (ρ.set i (some (false,d)))
 | .tup is,ρ,.tup ds=>zdF is ds ρ
 | .tup _,_,_=>none
noncomputable def tG(cl:Cf)(n:Nat)(tg:Tg):TG:=fun v σ H Q=>∃B w ρ S d ρ',w.H=H/\Rel cl B σ w ρ S/\Shd cl w v d/\tg.put ρ d=some ρ'/\∀σ',σ'.length=σ.length->σ'.drop n=σ.drop n->Rel cl B σ' w ρ' S->Q σ' w.H
def PG.imp{X:Cx}{tg:Expr}{t t':TG}(h:PG X tg t)(i:∀v σ H Q,t' v σ H Q->t v σ H Q):PG X tg t':=fun pins s σ H v u Q I r q=>h pins s σ H v u Q I r (i _ _ _ _ q)
noncomputable def zd1(tg:Tg)(body:Fs):List D->Env->Sto->Fo
 | [],ρ,S=>.nx ρ S
 | d::ds,ρ,S=>match tg.put ρ d with
  | none=>.bad
  | some ρ1=>match body ρ1 S with
   | .nx ρ' S'=>zd1 tg body ds ρ' S'
   | .ct ρ' S'=>zd1 tg body ds ρ' S'
   | .bk ρ' S'=>.nx ρ' S'
   | o=>o
noncomputable def zgN(tg:Tg)(it:Fi)(body:Fs):Fs:=fun ρ S=>match it ρ S with
 | .ok ds S'=>zd1 tg body ds ρ S'
 | .exc c S'=>.ex c ρ S'
 | .bad=>.bad
section
variable{X:Cx}{cl:Cf}{E:St->XK}{own:Bool}{e iter tg:Expr}{body:List Stmt}{fb:Fs}{fi:Fi}{fc:Fe}{t:Tg}{pos:Pos}
def zh0{α:Type}{n i:Nat}{l:List α}{a:α}(h:i<n):(l.set i a).drop n=l.drop n:=by
 refine ybu fun k=>?_
 rw [ybo,ybo,yaP (by omega)]
def zql{n i:Nat}{x:Str}(hin:i<n)(hN:X.N.Nodup)(hi:X.N[i]?=some x)(hx:Loc X.env.scope x)(hf:X.fn x=true\/X.env.scope.names.lookup x=some .local):PG X (.Name x pos) (tG cl n (.one i)):=by
 refine PG.imp (zjK hN hi hx hf) ?_;rintro v σ H Q ⟨B,w,ρ,S,d,ρ',rfl,R,h,hp,q⟩;cases hp;exact q _ (yay ..) (zh0 hin) (R.put h)
noncomputable def tGs(cl:Cf)(n:Nat)(is:List Nat):TGs:=fun vs σ H Q=>∃B w ρ S ds ρ',w.H=H/\Rel cl B σ w ρ S/\Shds cl w vs ds/\zdF is ds ρ=some ρ'/\∀σ',σ'.length=σ.length->σ'.drop n=σ.drop n->Rel cl B σ' w ρ' S->Q σ' w.H
def znZ{n:Nat}:PGs X [] (tGs cl n []):=by
 intro pins s σ H vs us Q I r h;obtain ⟨B,w,ρ,S,ds,ρ',rfl,R,hs,hp,q⟩:=h
 cases hs with
 | nil =>
  cases hp;exact zoo pins s σ w.H [] us Q I r ⟨rfl,q σ rfl rfl R⟩
 | cons _ _=>cases hp
def zlj{n i:Nat}{is:List Nat}{x:Str}{es:List Expr}(hin:i<n)(hN:X.N.Nodup)(hi:X.N[i]?=some x)(hx:Loc X.env.scope x)(hf:X.fn x=true\/X.env.scope.names.lookup x=some .local)(h2:PGs X es (tGs cl n is)):PGs X (.Name x pos::es) (tGs cl n (i::is)):=by
 intro pins s σ H vs us Q I r h;obtain ⟨B,w,ρ,S,ds,ρ',rfl,R,hs,hp,q⟩:=h;refine zlB (zjK hN hi hx hf) h2 rfl pins s σ w.H vs us Q I r ?_
 cases hs with
 | nil=>cases hp
 | cons h t =>
  rename_i v d vs ds;exact ⟨v,vs,rfl,B,w,_,S,ds,ρ',rfl,R.put h,t,hp,fun σ' e1 e2=>q σ' (e1.trans (yay ..)) (e2.trans (zh0 hin))⟩
def zqk{es:List Expr}{n k:Nat}{is:List Nat}(hc:X.calm=true)(h:PGs X es (tGs cl n is))(hn:(assignEach es X.env).length=is.length)(hst:(assignEach es X.env).findIdx? (·.1)=none):PG X (.Tuple es k pos) (tG cl n (.tup is)):=by
 refine PG.imp (zqU hc h hn hst) ?_;rintro v σ H Q ⟨B,w,ρ,S,d,ρ',rfl,R,h,hp,q⟩
 cases h with
 | tup e k r =>
  have hl:∀(is:List Nat) (ds:List D) (ρ ρ':Env),zdF is ds ρ=some ρ'->ds.length=is.length:=by
   intro is
   induction is with
   | nil=>intro ds ρ ρ' h;cases ds with
    | nil=>rfl
    | cons _ _=>cases h
   | cons i is ih=>intro ds ρ ρ' h;cases ds with
    | nil=>cases h
    | cons d ds=>rw [yaj,yaj,ih ds _ _ h]
  rename_i a xs ds;refine ⟨a,xs,rfl,SqT.of e,by rw [r.length];exact hl is ds ρ ρ' hp,B,w,ρ,S,ds,ρ',rfl,R,r,hp,q⟩
 | _=>cases hp
def zp9{n:Nat}(hp:PassesOwn (model X.prog X.w) X.A X.env X.xe)(hc:X.calm=true)(hi:PI X tg iter (tI cl E fi))(hg:PG X tg (tG cl n t))(hb:PSs X body (tS cl E own fb))(hs:∀x,foldedSetIterable iter X.env x=pure x):PS X (.For tg iter body [] pos) (tS cl E own (zgN t fi fb)):=by
 refine PS.imp (zqR hp hc hi hg hb hs) ?_;rintro De σ H ⟨B,w,ρ,S,rfl,R,q⟩;refine ⟨B,w,ρ,S,rfl,R,?_⟩;unfold zgN at q
 cases hf:fi ρ S with
 | bad=>rwa [hf] at q
 | exc c S1=>rw [hf] at q;exact fun w' R' F'=>q σ w' R' F'
 | ok ds S1 =>
  rw [hf] at q;intro J w0 R0 F0 hJ;dsimp only at q;refine ⟨fun i m σ' H'=>m=ds.length-i/\i<=ds.length/\∃w1 ρ1 S2,w1.H=H'/\Fut w0 w1/\Rel cl B σ' w1 ρ1 S2/\zib cl E own B w1 De (zd1 t fb (ds.drop i) ρ1 S2),⟨ds.length,by simp,yaW _,w0,ρ,S1,rfl,Fut.refl _,R0,by rw [List.drop_zero];exact zib.up F0 q⟩,?_⟩;rintro i m σ1 H1 ⟨rfl,hi,w1,ρ1,S2,rfl,F1,R1,q1⟩
  by_cases hlt:i<ds.length
  ·obtain ⟨d,hd⟩:∃d,ds[i]?=some d:=⟨ds[i],yac hlt⟩
   have hdr:ds.drop i=d::ds.drop (i+1):=by
    rw [List.drop_eq_getElem_cons hlt];rw [yac hlt] at hd;cases hd;rfl
   rw [hdr] at q1;unfold zd1 at q1
   cases hp1:t.put ρ1 d with
   | none=>rw [hp1] at q1;exact q1.elim
   | some ρ2 =>
    rw [hp1] at q1;dsimp only at q1;refine .inr ⟨hJ.go w1 F1 i hlt,fun σ' H'=>i+1<=ds.length/\∃w1 ρ1 S2,w1.H=H'/\Fut w0 w1/\Rel cl B σ' w1 ρ1 S2/\zib cl E own B w1 De (zd1 t fb (ds.drop (i+1)) ρ1 S2),fun σ' H' h'=>⟨ds.length-(i+1),by omega,rfl,h'.1,h'.2⟩,fun x H' y=>?_⟩;obtain ⟨w2,rfl,g2,s2⟩:=hJ.yld w1 F1 i d x H' hd y;refine ⟨B,w2,ρ1,S2,d,ρ2,rfl,R1.grow g2,s2,hp1,fun σ2 _ _ R2=>⟨B,w2,ρ2,S2,rfl,R2,?_⟩⟩;have q2:=zib.up g2.fut q1
    cases hb:fb ρ2 S2 with
    | bad=>rwa [hb] at q2
    | rt d S3=>rwa [hb] at q2
    | ex c ρ3 S3=>rwa [hb] at q2
    | bk ρ3 S3=>rw [hb] at q2;exact fun σ3 w3 R3 F3=>q2 σ3 w3 R3 F3
    | nx ρ3 S3=>rw [hb] at q2;exact fun σ3 w3 R3 F3=>⟨hlt,w3,ρ3,S3,rfl,F1.trans (g2.fut.trans F3),R3,zib.up F3 q2⟩
    | ct ρ3 S3=>rw [hb] at q2;exact fun σ3 w3 R3 F3=>⟨hlt,w3,ρ3,S3,rfl,F1.trans (g2.fut.trans F3),R3,zib.up F3 q2⟩
  ·have e:i=ds.length:=by omega
   subst e;rw [List.drop_length] at q1;exact .inl ⟨hJ.stop w1 F1,q1 σ1 w1 R1 (Fut.refl _)⟩
noncomputable def zhZ(f:Fe):Fi:=fun ρ S=>(f ρ S).bind fun d S1=>match d with | .lst l=>.ok l S1 | _=>.bad
noncomputable def zha(f:Fe):Fi:=fun ρ S=>(f ρ S).bind fun d S1=>match d with | .tup l=>.ok l S1 | _=>.bad
def zjf(he:PE X e (tE cl E fc)):PI X tg e (tI cl E (zhZ fc)):=by
 refine PI.imp (zon he) ?_;rintro σ H Q ⟨B,w,ρ,S,rfl,R,q⟩;refine ⟨B,w,ρ,S,rfl,R,?_⟩;unfold zhZ at q
 cases hf:fc ρ S with
 | bad=>rwa [hf] at q
 | exc c S1=>rwa [hf] at q
 | ok d S1 =>
  rw [hf] at q;intro v w' R' F' h';dsimp only [Out.bind] at q
  cases h' with
  | lst e k r =>
   rename_i a xs ds;refine ⟨a,rfl,⟨xs,SqL.of e⟩,q _ w' R' F' ?_⟩;have hl:=r.length;refine ⟨fun w1 F1 i hi=>⟨xs,xs[i]'(by omega),SqL.of (F1.keep _ _ e k).1,yac (by omega)⟩,fun w1 F1=>⟨xs,SqL.of (F1.keep _ _ e k).1,by omega⟩,fun w1 F1 i d x H1 hd y=>?_⟩;obtain ⟨rfl,hy⟩:=y;have hx:=hy xs (SqL.of (F1.keep _ _ e k).1);obtain ⟨d',e1,e2⟩:=r.get hx;rw [hd] at e1;cases e1;exact ⟨w1,rfl,Grow.refl _,e2.up F1⟩
  | _=>exact q.elim
def zqh(he:PE X e (tE cl E fc)):PI X tg e (tI cl E (zha fc)):=by
 refine PI.imp (zqT he) ?_;rintro σ H Q ⟨B,w,ρ,S,rfl,R,q⟩;refine ⟨B,w,ρ,S,rfl,R,?_⟩;unfold zha at q
 cases hf:fc ρ S with
 | bad=>rwa [hf] at q
 | exc c S1=>rwa [hf] at q
 | ok d S1 =>
  rw [hf] at q;intro v w' R' F' h';dsimp only [Out.bind] at q
  cases h' with
  | tup e k r =>
   rename_i a xs ds;refine ⟨a,rfl,⟨xs,SqT.of e⟩,q _ w' R' F' ?_⟩;have hl:=r.length;refine ⟨fun w1 F1 i hi=>⟨xs,xs[i]'(by omega),SqT.of (F1.keep _ _ e k).1,yac (by omega)⟩,fun w1 F1=>⟨xs,SqT.of (F1.keep _ _ e k).1,by omega⟩,fun w1 F1 i d x H1 hd y=>?_⟩;obtain ⟨rfl,hy⟩:=y;have hx:=hy xs (SqT.of (F1.keep _ _ e k).1);obtain ⟨d',e1,e2⟩:=r.get hx;rw [hd] at e1;cases e1;exact ⟨w1,rfl,Grow.refl _,e2.up F1⟩
  | _=>exact q.elim
noncomputable def zaB(lo hi:Int):List D:=(List.range (hi-lo).toNat).map fun (i:Nat)=>.int (lo+i)
noncomputable def zdQ(f:Fe):Fi:=fun ρ S=>(zae [f] ρ S).bind fun ds S1=>match ds with | [.int j]=>if -1000000<=j/\j<=1000000 then .ok (zaB 0 j) S1 else .bad | _=>.bad
noncomputable def zkC(f g:Fe):Fi:=fun ρ S=>(zae [f,g] ρ S).bind fun ds S1=>match ds with | [.int i,.int j]=>if (-1000000<=i/\i<=1000000)/\-1000000<=j/\j<=1000000 then .ok (zaB i j) S1 else .bad | _=>.bad
def zng{w:Wd}{lo hi:Int}{n:Nat}(hn:n=(hi-lo).toNat):ItOk cl w (Itr lo n) (zaB lo hi):=by
 subst hn
 have hl:(zaB lo hi).length=(hi-lo).toNat:=by unfold zaB;rw [yaf,ycY]
 refine ⟨fun w1 F1 i h=>by rw [hl] at h;exact h,fun w1 F1=>by rw [hl];exact yal _,fun w1 F1 i d x H1 hd y=>?_⟩;obtain ⟨rfl,rfl⟩:=y;unfold zaB at hd;rw [yas] at hd
 cases hr:(List.range (hi-lo).toNat)[i]? with
 | none=>rw [hr] at hd;cases hd
 | some j =>
  rw [hr] at hd;have:=(yan.mp hr).2;rw [List.getElem_range] at this;subst this;cases hd;exact ⟨w1,rfl,Grow.refl _,.int _⟩
def znW{p:Pos}(hg:Gl X "range")(hm:X.mg "range" = none)(ha:PA X [e] (tAs cl E [fc]))(hs:starEach [e] X.env=[(false,eval e X.env)]):PI X tg (.Call (.Name "range" p) [e] [] pos) (tI cl E (zdQ fc)):=by
 refine PI.imp (zjJ hg hm ha hs) ?_;rintro σ H Q ⟨B,w,ρ,S,rfl,R,q⟩;refine ⟨B,w,ρ,S,rfl,R,?_⟩;unfold zdQ at q
 cases hf:zae [fc] ρ S with
 | bad=>rwa [hf] at q
 | exc c S1=>rwa [hf] at q
 | ok ds S1 =>
  rw [hf] at q;intro vs w' R' F' h';dsimp only [Out.bind] at q;split at q
  ·rename_i ds' S' hm';split at hm'
   ·rename_i j;split at hm'
    ·rename_i hb;cases hm'
     cases h' with
     | cons h1 h2 =>
      cases h1;cases h2;exact ⟨j,rfl,by omega,by omega,q _ w' R' F' (zng (by omega))⟩
    ·cases hm'
   ·cases hm'
  ·rename_i hm';split at hm'<;>first | (split at hm'<;>cases hm') | cases hm'
  ·exact q.elim
def znV{a:Expr}{fa:Fe}{p:Pos}(hg:Gl X "range")(hm:X.mg "range" = none)(ha:PA X [a,e] (tAs cl E [fa,fc]))(hs:starEach [a,e] X.env=[(false,eval a X.env),(false,eval e X.env)])(hs2:starEach [e] X.env=[(false,eval e X.env)]):PI X tg (.Call (.Name "range" p) [a,e] [] pos) (tI cl E (zkC fa fc)):=by
 refine PI.imp (zjI hg hm ha hs hs2) ?_;rintro σ H Q ⟨B,w,ρ,S,rfl,R,q⟩;refine ⟨B,w,ρ,S,rfl,R,?_⟩;unfold zkC at q
 cases hf:zae [fa,fc] ρ S with
 | bad=>rwa [hf] at q
 | exc c S1=>rwa [hf] at q
 | ok ds S1 =>
  rw [hf] at q;intro vs w' R' F' h';dsimp only [Out.bind] at q;split at q
  ·rename_i ds' S' hm';split at hm'
   ·rename_i i j;split at hm'
    ·rename_i hb;cases hm'
     cases h' with
     | cons h1 h2 =>
      cases h1
      cases h2 with
      | cons h2 h3 =>
       cases h2;cases h3;exact ⟨i,j,rfl,by omega,q _ w' R' F' (zng rfl)⟩
    ·cases hm'
   ·cases hm'
  ·rename_i hm';split at hm'<;>first | (split at hm'<;>cases hm') | cases hm'
  ·exact q.elim
end
end S2
namespace S2
open PySem PySem.Spec PyProof.Rows L2
noncomputable def zr9(ρ:Env)(i:Nat):Option (Bool×D):=match ρ[i]? with | some (some (false,d))=>some (false,d) | _=>none
noncomputable def zbe(n:Nat)(caps:List Nat)(ρ:Env):Env:=List.replicate n none++caps.map (zr9 ρ)
noncomputable def zbT:Fe:=zal (.bl true)
noncomputable def zaH(tg:Tg)(c elt:Fe)(ρ0:Env):List D->Sto->Out (List D)
 | [],S=>.ok [] S
 | d::ds,S=>match tg.put ρ0 d with
  | none=>.bad
  | some ρ1=>(c ρ1 S).bind fun b S1=>match isB b with
   | some true=>(elt ρ1 S1).bind fun y S2=>(zaH tg c elt ρ0 ds S2).bind fun ys S3=>.ok (y::ys) S3
   | some false=>zaH tg c elt ρ0 ds S1
   | none=>.bad
noncomputable def zbj(n:Nat)(tg:Tg)(it:Fi)(c elt:Fe)(caps:List Nat):Fe:=fun ρ S=>(it ρ S).bind fun ds S1=>match zaH tg c elt (zbe n caps ρ) ds S1 with
 | .ok ys S2=>if zaX ys.length then .ok (.lst ys) S2 else .bad
 | _=>.bad
noncomputable abbrev noE:St->XK:=fun _ _ _ _=>False
section
variable{cl:Cf}
def zkl{B:Base}{σ:St}{w w1:Wd}{ρ:Env}{S S1:Sto}{n:Nat}{caps:List (Str×Nat)}(R:Rel cl B σ w ρ S){B1:Base}(W1:World' cl B1 w1 S1)(F1:Fut w w1){σ':St}(hσ:σ'.length=n+caps.length)(hc:σ'.drop n=caps.map fun p=>(σ[p.2]?).join) :
  Rel cl B1 σ' w1 (zbe n (caps.map (·.2)) ρ) S1 where
 wd:=W1
 len:=by unfold zbe;rw [hσ,yaw,yaS,yaf,yaf]
 slots:=fun i o d h=>by
  unfold zbe at h
  by_cases hi:i<n
  ·rw [yaL (by rw [yaS];exact hi),ybE] at h
   split at h<;>cases h
  ·rw [yax (by rw [yaS];omega),yaS,ybb,yas] at h
   cases hp:caps[i-n]? with
   | none=>rw [hp] at h;cases h
   | some p =>
    rw [hp] at h;have h':zr9 ρ p.2=some (o,d):=Option.some.inj h;unfold zr9 at h';split at h'
    ·rename_i d' hd;cases h';obtain ⟨v,e,x⟩:=R.slots p.2 false d hd;refine ⟨v,?_,Shd.up F1 x⟩;have:=congrArg (fun l=>l[i-n]?) hc;rw [ybo,yas,hp] at this;rw [show n+(i-n)=i by omega] at this;rw [this];show some ((σ[p.2]?).join)=_;rw [e];rfl
    ·cases h'
end
section
variable{X:Cx}{cl:Cf}{E:St->XK}
def zns{fi:Fi}{t:Tg}{fc fe:Fe}{n:Nat}{caps:List (Str×Nat)}{σ:St}{H:Hp}{Q:VK}(q:tN cl E (zbj n t fi fc fe (caps.map (·.2))) σ H Q) :
  zhu (tI cl E fi) (tG cl n t) (tTr cl noE fc) (tE cl noE fe) n caps σ H Q:=by
 obtain ⟨B,w,ρ,S,rfl,R,q⟩:=q;refine ⟨B,w,ρ,S,rfl,R,?_⟩;unfold zbj at q
 cases hf:fi ρ S with
 | bad=>rwa [hf] at q
 | exc c S1=>rwa [hf] at q
 | ok ds S1 =>
  rw [hf] at q;dsimp only [Out.bind] at q;intro J w0 R0 F0 hJ
  cases hcd:zaH t fc fe (zbe n (caps.map (·.2)) ρ) ds S1 with
  | bad=>rw [hcd] at q;exact q.elim
  | exc _ _=>rw [hcd] at q;exact q.elim
  | ok all Sf =>
   rw [hcd] at q;dsimp only at q
   cases hz:zaX all.length with
   | false=>rw [hz,if_neg (by decide)] at q;exact q.elim
   | true =>
    rw [hz,if_pos rfl] at q;dsimp only at q;refine ⟨fun i m ys σ' H'=>m=ds.length-i/\i<=ds.length/\σ'.length=n+caps.length/\σ'.drop n=(caps.map fun p=>(σ[p.2]?).join)/\∃w1 S2 es zbq,w1.H=H'/\Fut w0.inn w1/\World' cl w0.base w1 S2/\Shds cl w1 ys es/\zaH t fc fe (zbe n (caps.map (·.2)) ρ) (ds.drop i) S2=.ok zbq Sf/\es++zbq=all,⟨ds.length,by simp,yaW _,by simp [capσ],by simp [capσ],w0.inn,S1,[],all,rfl,Fut.refl _,R0.wd.enter,.nil,by rw [List.drop_zero];exact hcd,rfl⟩,?_⟩;rintro i m ys σ1 H1 ⟨rfl,hi,hl1,hd1,w1,S2,es,zbq,rfl,F1,W1,sh,hrest,hall⟩;refine ⟨?_,?_⟩
    ·rw [sh.length];refine yao ?_ (zaY hz);rw [<-hall,yaw];omega
    have F1':Fut w0 w1:=(zbL w0).trans F1
    by_cases hlt:i<ds.length
    ·obtain ⟨d,hdi⟩:∃d,ds[i]?=some d:=⟨ds[i],yac hlt⟩
     have hdr:ds.drop i=d::ds.drop (i+1):=by
      rw [List.drop_eq_getElem_cons hlt];rw [yac hlt] at hdi;cases hdi;rfl
     rw [hdr] at hrest;unfold zaH at hrest;refine .inr ⟨hJ.go w1 F1' i hlt,fun x H' y=>?_⟩;obtain ⟨w2,rfl,g2,s2⟩:=hJ.yld w1 F1' i d x H' hdi y;have R1:Rel cl w0.base σ1 w2 (zbe n (caps.map (·.2)) ρ) S2:=zkl R0 (W1.grow g2) (F1'.trans g2.fut) hl1 hd1
     cases hp:t.put (zbe n (caps.map (·.2)) ρ) d with
     | none=>rw [hp] at hrest;cases hrest
     | some ρ1 =>
      rw [hp] at hrest;dsimp only at hrest;refine ⟨w0.base,w2,_,S2,d,ρ1,rfl,R1,s2,hp,fun σ2 hk1 hk2 R2=>⟨w0.base,w2,ρ1,S2,rfl,R2,?_⟩⟩
      cases hc:fc ρ1 S2 with
      | bad=>rw [hc] at hrest;cases hrest
      | exc _ _=>rw [hc] at hrest;cases hrest
      | ok b S3 =>
       rw [hc] at hrest;dsimp only [Out.bind] at hrest ⊢
       cases hb:isB b with
       | none=>rw [hb] at hrest;cases hrest
       | some bb =>
        rw [hb] at hrest;intro w3 R3 F3
        cases bb with
        | false=>exact znj ⟨ds.length-(i+1),by omega,rfl,hlt,hk1.trans hl1,hk2.trans hd1,w3,S3,es,zbq,rfl,F1.trans (g2.fut.trans F3),R3.wd,sh.up (g2.fut.trans F3),hrest,hall⟩
        | true =>
         refine zni ⟨w0.base,w3,ρ1,S3,rfl,R3,?_⟩;dsimp only at hrest
         cases he:fe ρ1 S3 with
         | bad=>rw [he] at hrest;cases hrest
         | exc _ _=>rw [he] at hrest;cases hrest
         | ok yv S4 =>
          rw [he] at hrest;dsimp only at hrest
          cases hr:zaH t fc fe (zbe n (caps.map (·.2)) ρ) (ds.drop (i+1)) S4 with
          | bad=>rw [hr] at hrest;cases hrest
          | exc _ _=>rw [hr] at hrest;cases hrest
          | ok zs S5 =>
           rw [hr] at hrest;cases hrest;intro v w4 R4 F4 h4;have ff:=g2.fut.trans (F3.trans F4);exact ⟨ds.length-(i+1),by omega,rfl,hlt,hk1.trans hl1,hk2.trans hd1,w4,S4,es++[yv],zs,rfl,F1.trans ff,R4.wd,(sh.up ff).append (.cons h4 .nil),hr,by rw [<-hall,ycn];rfl⟩
    ·have e:i=ds.length:=by omega
     subst e;rw [List.drop_length] at hrest;cases hrest;rw [yaK] at hall;subst hall;refine .inl ⟨hJ.stop w1 F1',fun p hp=>?_⟩;obtain ⟨Rb,Fb⟩:=R0.leave W1 F1;exact q p (.lst ys) (w0.back w1) Rb (F0.trans Fb) hp (.lst (sh.up (zcy W1)))
end
end S2
namespace L2
open PySem PySem.Spec PyProof.Rows
section
variable{X:Cx}
end
end L2
namespace L2
open PySem PySem.Spec PyProof.Rows
noncomputable def CXE(P:Program)(w:World):CXT:=fun outer H s E e s'=>∃(a:Addr) (cls a0:Value) (H':Hp) (B:Heap),e=.ref a/\Heap.FlyingW B outer a cls a0 s'.heap ∧
 (∀b o,s'.heap.get? b=some o->H' b≠none->B.get? b=some o)/\(∀b o,s.heap.get? b=some o->H b=none->b ∉ frs outer->B.get? b=some o) ∧
 (∀b o,s.heap.get? b=some o->b ∉ frs outer->∃o',B.get? b=some o') ∧
 s'.os=s.os/\AllBare s'.gens/\Un (frs outer) [] H H' s.heap s'.heap/\HOk P w H' s'.heap/\E cls none H'
def zba.has{P:Program}{w:World}{H:Hp}{h:Heap}{a:Addr}{o:HO}(x:zba P w H h a o):∃ob,h.get? a=some ob:=by
 cases o with
 | lst xs=>obtain ⟨_,_,_,_,e⟩:=x;exact ⟨_,e⟩
 | tup xs=>obtain ⟨_,_,_,ob,e,_⟩:=x;exact ⟨_,e⟩
 | dK kvs=>obtain ⟨_,_,_,_,o,_,_,e,_⟩:=x;exact ⟨_,e⟩
 | dT kvs=>obtain ⟨_,_,_,_,o,_,_,e,_⟩:=x;exact ⟨_,e⟩
 | set S n=>obtain ⟨o,_,_,_,e,_⟩:=x;exact ⟨_,e⟩
 | ins C dx fs=>obtain ⟨_,_,_,e,_⟩:=x;exact ⟨_,e⟩
 | own y=>exact x
 | xd fs=>obtain ⟨_,⟨_,_,_,e,_⟩,_⟩:=x;exact ⟨_,e⟩
 | rng lo hi=>obtain ⟨_,_,_,e⟩:=x;exact ⟨_,e⟩
 | frz ob u=>obtain ⟨e,_⟩:=x;exact ⟨_,e⟩
 | tbl ps=>exact ⟨_,(show h.get? a=some _ from x)⟩
 | met f y=>exact ⟨_,(show h.get? a=some _ from x)⟩
 | ext φ=>obtain ⟨_,e,_⟩:=x;exact e
def HOk.same{P:Program}{w:World}{H:Hp}{h h':Heap}(x:HOk P w H h)(k:∀b u,h.get? b=some u->H b≠none->h'.get? b=some u):HOk P w H h':=fun a o e =>
 (x a o e).stay (fun b u hb q=>k b u q (hb.elim (fun z=>by rw [z,e];exact yaG _) (fun z=>by rw [z];exact yaG _))) (fun _ q=>q) fun _ _ q=>q
section
variable{X:Cx}{pins:Z3}{σ:St}{H:Hp}{s:Shared}{M:Model}
def zmq(l:List Env):∀env∈l,∀b,env.frame=some b->b∈frs l:=fun env he b hb=>ybM.mpr ⟨env,he,hb⟩
def ziA{h':Heap}{e:Addr}{cls:Value}{vs:List Value}{E:XK}{Er:Z5}(I:Inv X pins σ H s)(hx:X.ex=[])(hs:X.stack=X.env::X.outer)(hf:X.env.frame=some X.env.locals)(mk:Heap.MadeExcOf s.heap h' e cls vs)(q:E cls none H) :
  wpAny M X.A (leaving X.env (.ref e)) (fun _ s''=>CXE X.prog X.w X.outer X.H₀ X.s₀ E (.ref e) s'') Er { s with heap:=h' }:=by
 have hfr:X.A.frames=some (X.env::X.outer):=by rw [<-hs];exact I.ok.frames
 have hst:s.heap.FunFrames X.base (X.env::X.outer):=by rw [<-hs];exact I.stack
 refine wpAny_leaves_madeW (base:=PySem.W.hideAll s.heap (frs (X.env::X.outer))) hfr hf (fun b o z=>PySem.W.of_hideAll _ z) (PySem.W.funFrames_hide hst (zmq _)) mk fun h2 t fl tup _ up=>?_
 have inB:∀b o,s.heap.get? b=some o->b ∉ frs (X.env::X.outer)->(PySem.W.hideAll s.heap (frs (X.env::X.outer))).get? b=some o:=fun b o z n=>PySem.W.hideAll_get _ z n
 have sub:∀b,b∈frs (X.env::X.outer)->b=X.env.locals\/b∈X.fs:=fun b hb=>by
  rw [<-hs] at hb;exact yap.mp (I.stkSub b hb)
 have fre:∀b,b∈frs (X.env::X.outer)->H b=none:=fun b hb=>by rw [<-hs] at hb;exact I.stkFree b hb
 have old:∀b o,X.s₀.heap.get? b=some o->b ∉ frs X.outer->b ∉ frs (X.env::X.outer):=fun b o z n hb=>by
  rcases sub b hb with r | r
  ·exact absurd (yak (yai z) I.ok.above) (by rw [r];exact yaY _)
  ·exact n r
 have nx:∀b:Addr,b ∉ X.ex:=fun b z=>by rw [hx] at z;cases z
 have trk:∀b o,s.heap.get? b=some o->H b≠none->h2.get? b=some o:=fun b o z n=>fl.1 b o (inB b o z fun hb=>n (fre b hb))
 have hok2:HOk X.prog X.w H h2:=I.hok.same trk
 have slt:∀b o,s.heap.get? b=some o->b∈frs X.stack->∃sl,h2.get? b=some { o with slots:=sl }:=fun b o z hb=>by
  obtain ⟨_,o',z',hd⟩:=I.stack.mem hb;rw [z] at z';cases z';exact up b o (mk.keeps b o z) hd
 have un2:Un (frs X.stack) [] H H s.heap h2:=⟨fun b o z n hb _=>fl.1 b o (inB b o z (by rw [<-hs];exact hb)),fun b o z n hb _=>slt b o z hb,fun b o z n _=>n,
  fun b o z _=>by
   by_cases hb:b∈frs X.stack
   ·obtain ⟨sl,r⟩:=slt b o z hb;exact ⟨_,r⟩
   ·exact ⟨o,fl.1 b o (inB b o z (by rw [<-hs];exact hb))⟩,
  fun _ _ z=>z,fun _ _ _ z=>z,fun _ ps z=>⟨#[],by rw [z,Array.append_empty]⟩⟩
 have J:=I.call (g':=s.gens) (t':=s.toks) (d':=s.drawn) (ch:=[]) un2 hok2 I.bare (fun b z=>absurd z (by simp));refine ⟨e,cls,.ref t,H,_,rfl,fl,fun b o z n=>?_,fun b o z n hb=>?_,fun b o z hb=>?_,J.os,J.bare,?_,J.hok,q⟩
 ·cases k:H b with
  | none=>exact absurd k n
  | some u =>
   obtain ⟨o',z'⟩:=(I.hok b u k).has;have:=trk b o' z' n;rw [show h2.get? b=some o from z] at this;cases this;exact inB b o z' fun hb=>n (fre b hb)
 ·exact inB b o (I.base.keep b o z n hb (nx b)) (old b o z hb)
 ·obtain ⟨o',z'⟩:=I.base.there b o z (nx b);exact ⟨o',inB b o' z' (old b o z hb)⟩
 ·have:=J.base;rwa [hx] at this
def zl7{e:Value}{s':Shared}{E:XK}{Er:Z5}(I:Inv X pins σ H s)(hx:X.ex=[])(hs:X.stack=X.env::X.outer)(hf:X.env.frame=some X.env.locals)(q:CXE X.prog X.w X.stack H s E e s') :
  wpAny M X.A (leaving X.env e) (fun _ s''=>CXE X.prog X.w X.outer X.H₀ X.s₀ E e s'') Er s':=by
 have hfr:X.A.frames=some (X.env::X.outer):=by rw [<-hs];exact I.ok.frames
 obtain ⟨a,cls,a0,H',B,rfl,fl,c1,c2,c3,os,bare,un,hok,q⟩:=q
 have fl':Heap.FlyingW B (X.env::X.outer) a cls a0 s'.heap:=by rw [<-hs];exact fl
 refine wpAny_leaves_onW hfr hf fl' fun h2 fl2 up=>?_
 have sub:∀b,b∈frs X.stack->b=X.env.locals\/b∈X.fs:=fun b hb=>yap.mp (I.stkSub b hb)
 have old:∀b o,X.s₀.heap.get? b=some o->b ∉ frs X.outer->b ∉ frs X.stack:=fun b o z n hb=>by
  rcases sub b hb with r | r
  ·exact absurd (yak (yai z) I.ok.above) (by rw [r];exact yaY _)
  ·exact n r
 have nx:∀b:Addr,b ∉ X.ex:=fun b z=>by rw [hx] at z;cases z
 have trk:∀b o,s'.heap.get? b=some o->H' b≠none->h2.get? b=some o:=fun b o z n=>fl2.1 b o (c1 b o z n)
 have hok2:HOk X.prog X.w H' h2:=hok.same trk
 have slt:∀b o,s.heap.get? b=some o->H b=none->b∈frs X.stack->∃sl,h2.get? b=some { o with slots:=sl }:=fun b o z n hb=>by
  obtain ⟨_,o',z',hd⟩:=I.stack.mem hb;rw [z] at z';cases z';obtain ⟨sl,r⟩:=un.slot b o z n hb (by simp);obtain ⟨sl',r'⟩:=up b ({ o with slots:=sl }:Obj) r hd;exact ⟨sl',r'⟩
 have un2:Un (frs X.stack) [] H H' s.heap h2:=⟨fun b o z n hb _=>fl2.1 b o (c2 b o z n hb),fun b o z n hb _=>slt b o z n hb,un.free,
  fun b o z _=>by
   by_cases hb:b∈frs X.stack
   ·obtain ⟨sl,r⟩:=slt b o z (I.stkFree b hb) hb;exact ⟨_,r⟩
   ·obtain ⟨o',r⟩:=c3 b o z hb
    exact ⟨o',fl2.1 b o' r⟩,
  un.tups,un.frzs,un.tbls⟩
 have J:=I.call (g':=s'.gens) (t':=s'.toks) (d':=s'.drawn) (ch:=[]) un2 hok2 bare (fun b z=>absurd z (by simp));refine ⟨a,cls,a0,H',B,rfl,fl2,fun b o z n=>?_,fun b o z n hb=>?_,fun b o z hb=>?_,os.trans I.os,bare,?_,J.hok,q⟩
 ·cases k:H' b with
  | none=>exact absurd k n
  | some u =>
   obtain ⟨o',z'⟩:=(hok b u k).has;have:=trk b o' z' n;rw [show h2.get? b=some o from z] at this;cases this;exact c1 b o z' n
 ·exact c2 b o (I.base.keep b o z n hb (nx b)) (I.base.free b o z n (nx b)) (old b o z hb)
 ·obtain ⟨o',z'⟩:=I.base.there b o z (nx b);exact c3 b o' z' (old b o z hb)
 ·have:=J.base;rwa [hx] at this
end
def ztF{P:Program}{w:World}{K:PySem.W.Frag}{mg:Z6}{base:Heap}{N:List Str}{qual:Str}{scope:Scope}{f:Addr}{cd:Value}{A:Around}{outer:List Env}{s:Shared}{H:Hp}{E:XK} :
  zsk (CXE P w) (zk9 (CXE P w) P w K mg base N qual scope f cd A outer s H E) E:=fun pins σ H1 s1 e s' I q =>
 zl7 (X:=zk9 (CXE P w) P w K mg base N qual scope f cd A outer s H E) I rfl rfl rfl q
def zo7{K:PySem.W.Frag}{h:Heap}{C:Addr}{bmB:List Value}{nid:String}(k:K.In h)(z:PySem.W.excIn K C bmB nid=true) :
  ∃bm N nm qn bs hd sn sub ab col dd c0 c1 c2 c3 c5 mN,h.get? C=some (excClassObj nm qn C N bs bm hd sn sub ab col dd c0 c1 c2 c3 c5 nid)/\h.Ns N mN/\mN "__init__" = none/\OwnTail h bmB bm:=by
 unfold PySem.W.excIn at z;split at z
 case h_2=>cases z
 case h_1 dd cd sl ho =>
  split at z
  case h_2=>cases z
  case h_1 D bm c0 c1 c2 c3 n c5 e1 e2 =>
   simp only [yab,ycm,ybh] at z;obtain ⟨⟨⟨⟨⟨z1,z2⟩,z3⟩,z4⟩,z5⟩,z6⟩:=z;subst z1 z2
   have hsl:sl=#[c0,c1,c2,c3,some (.builtin n),c5]:=by
    cases sl with
    | mk l=>exact congrArg Array.mk e2
   have hcd:cd={ cd with mro:=.ref D::bm,hasDel:=false }:=by
    cases cd;simp only at e1 z3;simp only [e1,z3]
   rw [hsl,hcd] at ho;exact ⟨bm,cd.ns,cd.name,_,cd.bases,_,_,_,_,_,dd,c0,c1,c2,c3,c5,_,k _ _ ho,.of_isNs (PySem.W.isNs_of_in k z5),PySem.W.nsMap_none_of_in k z5 z6,PySem.W.tail_of_in k z4⟩
noncomputable def zsj(X:Cx)(E:XK):Prop:=∀(C:Addr) (pins:Z3) (σ:St) (H:Hp) (s:Shared) (e:Addr) (h':Heap) (vs:List Value),Inv X pins σ H s->Heap.MadeExcOf s.heap h' e (.ref C) vs->E (.ref C) none H->X.xe (.ref e) { s with heap:=h' }
def zob{P:Program}{w:World}{K:PySem.W.Frag}{mg:Z6}{base:Heap}{N:List Str}{qual:Str}{scope:Scope}{f:Addr}{cd:Value}{A:Around}{outer:List Env}{s:Shared}{H:Hp}{E:XK} :
  zsj (zk9 (CXE P w) P w K mg base N qual scope f cd A outer s H E) E:=fun C pins σ H1 s1 e h' vs I mk q =>
 ziA (X:=zk9 (CXE P w) P w K mg base N qual scope f cd A outer s H E) I rfl rfl rfl mk q
end L2
namespace L2
open PySem PySem.Spec PyProof.Rows
noncomputable def XP(X:Cx)(pins:Z3)(σ:St)(E:XK)(e:Value)(s':Shared):Prop:=∃H1 s1,Inv X pins σ H1 s1/\CXE X.prog X.w X.stack H1 s1 E e s'
section
variable{X:Cx}{k:Nat}{f C:Addr}{fd:FuncData}{ps:List Str}{sp:Sp}{dvs:List V}{ds:List Value}{x m:Str}{p pos apos:Pos}{e o:Expr}{es:List Expr}{ta:TE}{t:TA}
end
end L2
namespace L2
open PySem PySem.Spec PyProof.Rows
section
variable{X:Cx}{pins:Z3}{σ:St}{H:Hp}{s:Shared}
end
end L2
namespace L2
open PySem PySem.Spec PyProof.Rows
section
variable{X:Cx}{pins:Z3}{σ:St}{H H':Hp}{s s':Shared}{B h2:Heap}{a:Addr}{cls a0:Value}
noncomputable abbrev Cx.inH(X:Cx)(a:Addr):Cx:={ X with A:=X.A.mark (some (.ref a)),calm:=false,xe:=fun _ _=>False }
end
noncomputable def zpt(K:PySem.W.Frag)(C D:Addr):Prop:=(∃bC iC,PySem.W.excIn K C bC iC=true)/\∃cd d cl sl,K.lookup C=some ⟨cl,d,.cls cd,sl⟩/\cd.mro.contains (.ref D)=true
noncomputable def Ends.goes(D:Ends)(i:Nat):Ends:={ nx:=fun σ H=>D.nx (σ.set i none) H,rt:=D.rt,bk:=fun σ H=>D.bk (σ.set i none) H,ct:=fun σ H=>D.ct (σ.set i none) H }
end L2
namespace PySem.W
open PySem
structure ExcCls(K:Frag)(C:Addr):Prop where
 ga:findIn K (.ref C) "__getattribute__" = some (some (.builtin "BaseException.__getattribute__"))
 gt:findIn K (.ref C) "__getattr__" = some none
 cl:findIn K (.ref C) "__class__" = some (some (.builtin "object.__class__"))
 ob:subIn K (.ref C) (.type "object")=some true
 be:subIn K (.ref C) (.type "BaseException")=some true
 is:∃c d cd sl,K.lookup C=some ⟨c,d,.cls cd,sl⟩
section
variable{prog:Program}{w:World}{A:Around}{E:Z5}{h:Heap}{g:Array GenState}{d:Drawn}{t:Nat}{os:OsState}{a C:Addr}{o:Obj}{K:Frag}
end
end PySem.W
namespace PySem.W
open PySem
section
variable{prog:Program}{w:World}{A:Around}{E:Z5}{h:Heap}{g:Array GenState}{d:Drawn}{t:Nat}{os:OsState}{a C:Addr}{o:Obj}{K:Frag}
end
end PySem.W
namespace L2
open PySem PySem.Spec PyProof.Rows
end L2
namespace L2
open PySem PySem.Spec PyProof.Rows PySem.SeqAt
section
variable{X:Cx}
end
end L2
namespace L2
open PySem PySem.Spec PyProof.Rows
theorem zhE(ns:List Int):∀j,j<=ns.length->preSum (fun i=>ns.getD i 0) j=(ns.take j).sum
 | 0,_=>by rw [List.take_zero];rfl
 | j+1,h=>by
  have ih:=zhE ns j (by omega);show preSum _ j+ns.getD j 0=_
  have e:ns.take (j+1)=ns.take j++[ns[j]]:=by rw [List.take_add_one,yac (by omega)];rfl
  have e2:ns.getD j 0=ns[j]:=by simp [List.getD,show j<ns.length by omega]
  rw [ih,e,e2,List.sum_append];simp
theorem zf2(ns:List Int)(h:∀n∈ns,0<=n/\n<=1000000):∀j,j<=ns.length->0<=preSum (fun i=>ns.getD i 0) j/\preSum (fun i=>ns.getD i 0) j<=1000000*(j:Int)
 | 0,_=>⟨Int.le_refl _,Int.le_refl _⟩
 | j+1,hj=>by
  have ih:=zf2 ns h j (by omega)
  have e:ns.getD j 0=ns[j]:=by simp [List.getD,show j<ns.length by omega]
  have hb:=h ns[j] (ya7 (by omega));show 0<=preSum _ j+ns.getD j 0/\preSum _ j+ns.getD j 0<=_;rw [e]
  push_cast
  omega
section
variable{X:Cx}
def zmG(hc:X.calm=true):zdC X (.builtin "sum") (fun xs H Q=>∃(p:Addr) (ns:List Int),xs=[.ref p]/\SqL X.K H p (ns.map V.int)/\ns.length<=1000/\(∀n∈ns,0<=n/\n<=1000000)/\Q (.int ns.sum) H):=by
 intro pins s σ H xs us Q I r h;obtain ⟨p,ns,rfl,hq,hl1000,hb,q⟩:=h;obtain ⟨u,rfl,rx⟩:=zfK r;cases rx;obtain ⟨its,rv,pl,hz⟩:=I.list hq;have hl:=pl.isList
 have hlt:p<s.heap.objs.size:=by obtain ⟨_,e,_⟩:=hl;exact yai e
 have hn:its.length=ns.length:=by have:=rv.length;rw [yaf] at this;exact this.symm
 refine call_sum_walk (ybV hl ?_);refine ⟨s.heap.objs.size,[s.heap.objs.size,p],[s.heap.objs.size],its.toArray.size,_,_,fun i=>ns.getD i 0,rfl,Walks.list (A:=X.A.in1) (I.ok.hd hc) _ p (yar hlt) its.toArray,⟨⟨_,yam _ rfl,rfl,rfl⟩,hl.push _⟩,fun b hm=>?_,fun i v hP=>?_,fun j hj=>?_,fun h' tk t' hk=>?_⟩
 ·show b<(s.heap.push _).objs.size;rw [ya4];simp only [yap,yaJ,ybF] at hm
  rcases hm with z | z
  ·rw [z];exact yb1 _
  ·rw [z];exact ybC hlt
 ·have hv:its[i]?=some v:=by simpa using hP
  have hi:i<ns.length:=by rw [<-hn];exact (yan.mp hv).1
  obtain ⟨u,hu,ru⟩:=rv.get (i:=i) (x:=.int ns[i]) (by rw [yas,yac hi];rfl);rw [hv] at hu;cases hu;obtain ⟨t,rfl⟩:=ru;exact ⟨t,by simp [List.getD,hi]⟩
 ·rw [yag,hn] at hj;have h1:=zf2 ns hb (j+1) hj
  have e:ns.getD j 0=ns[j]:=by simp [List.getD,hj]
  have h2:=hb ns[j] (ya7 hj);refine ⟨?_,?_⟩
  ·show InLong (ns.getD j 0);rw [e];exact ⟨by omega,by omega⟩
  ·have:((j+1:Nat):Int)<=1000:=by omega
   exact ⟨by omega,by omega⟩
 ·rw [yag,hn,zhE ns ns.length (yal _),List.take_length];refine ⟨.int _,H,I.kept (t':=tk) fun b o e=>?_,⟨t',rfl⟩,q⟩;exact hk b o (fun hm=>by rw [yaU.mp hm] at e;exact yaY _ (yai e)) (yae _ e)
end
end L2
namespace S2
open PySem PySem.Spec PyProof.Rows L2
mutual
noncomputable def D.py:D->PyData
 | .non=>.none
 | .bl b=>.bool b
 | .int i=>.int i
 | .str x=>.str x
 | .tup l=>.tuple (D.pys l)
 | .lst l=>.list (D.pys l)
 | .scr l=>.list (l.map PyData.int)
 | .dic _=>.none
 | .ref _=>.none
 | .exc _=>.none
noncomputable def D.pys:List D->List PyData
 | []=>[]
 | d::l=>d.py::D.pys l
end
mutual
noncomputable def D.fit:Nat->D->Bool
 | _,.non=>true
 | _,.bl _=>true
 | _,.int _=>true
 | _,.str x=>PyData.strOk x
 | 0,.tup _=>false
 | n+1,.tup l=>D.fits n l
 | 0,.lst _=>false
 | n+1,.lst l=>D.fits n l
 | 0,.scr _=>false
 | _+1,.scr _=>true
 | _,.dic _=>false
 | _,.ref _=>false
 | _,.exc _=>false
noncomputable def D.fits:Nat->List D->Bool
 | _,[]=>true
 | n,d::l=>d.fit n&&D.fits n l
end
theorem D.fits_iff{n:Nat}:∀{l:List D},D.fits n l=true↔∀d∈l,d.fit n=true
 | []=>by simp [D.fits]
 | d::l=>by simp [D.fits,D.fits_iff (l:=l)]
theorem zhT:∀(l:List Int),PyData.canLayAll0 (l.map PyData.int)=true/\PyData.depthAll (l.map PyData.int)=0
 | []=>⟨rfl,rfl⟩
 | i::l=>by
  obtain ⟨a,b⟩:=zhT l;exact ⟨by simp [PyData.canLayAll0,PyData.canLay0,a],by simp [PyData.depthAll,PyData.depth,b]⟩
mutual
theorem D.lay:∀{n:Nat} {d:D},d.fit n=true->d.py.canLay0=true/\d.py.depth<=n
 | _,.non,_=>⟨rfl,yaW _⟩
 | _,.bl _,h=>⟨rfl,yaW _⟩
 | _,.int _,_=>⟨rfl,yaW _⟩
 | _,.str x,h=>⟨by simpa [D.fit,D.py,PyData.canLay0] using h,yaW _⟩
 | 0,.tup _,h=>by simp [D.fit] at h
 | 0,.lst _,h=>by simp [D.fit] at h
 | 0,.scr _,h=>by simp [D.fit] at h
 | n+1,.scr l,h=>by
  obtain ⟨a,b⟩:=zhT l;exact ⟨by simpa [D.py,PyData.canLay0] using a,by simp only [D.py,PyData.depth];omega⟩
 | _,.dic _,h=>by simp [D.fit] at h
 | _,.ref _,h=>by simp [D.fit] at h
 | _,.exc _,h=>by simp [D.fit] at h
 | n+1,.tup l,h=>by
  have h':D.fits n l=true:=by simpa [D.fit] using h
  obtain ⟨a,b⟩:=D.lays h';exact ⟨by simpa [D.py,PyData.canLay0] using a,by simp only [D.py,PyData.depth];omega⟩
 | n+1,.lst l,h=>by
  have h':D.fits n l=true:=by simpa [D.fit] using h
  obtain ⟨a,b⟩:=D.lays h';exact ⟨by simpa [D.py,PyData.canLay0] using a,by simp only [D.py,PyData.depth];omega⟩
theorem D.lays:∀{n:Nat} {l:List D},D.fits n l=true->PyData.canLayAll0 (D.pys l)=true/\PyData.depthAll (D.pys l)<=n
 | _,[],_=>⟨rfl,yaW _⟩
 | n,d::l,h=>by
  simp only [D.fits,yab] at h;obtain ⟨a,b⟩:=D.lay h.1;obtain ⟨c,e⟩:=D.lays h.2;exact ⟨by simp [D.pys,PyData.canLayAll0,a,c],by simp only [D.pys,PyData.depthAll];omega⟩
end
section
variable{X:Cx}{cl:Cf}{w:Wd}
def TopV.lstI{v:V}{ds:List D}(h:TopV cl w v (.lst ds)):∃a xs,v=.ref a/\w.H a=some (.lst xs)/\Shds cl w xs ds:=by
 cases h with
 | sh h=>cases h with
  | lst e k r=>exact ⟨_,_,rfl,e,r⟩
 | ow e t=>cases t with
  | lst r=>exact ⟨_,_,rfl,e,r⟩
def TopV.tupI{v:V}{ds:List D}(h:TopV cl w v (.tup ds)):∃a xs,v=.ref a/\w.H a=some (.tup xs)/\w.ow a=none/\Shds cl w xs ds:=by
 cases h with
 | sh h=>cases h with
  | tup e k r=>exact ⟨_,_,rfl,e,k,r⟩
 | ow e t=>cases t
def TopV.intI{v:V}{i:Int}(h:TopV cl w v (.int i)):v=.int i:=by
 cases h with
 | sh h=>cases h;rfl
 | ow e t=>cases t
def TopV.strI{v:V}{i:Str}(h:TopV cl w v (.str i)):v=.str i:=by
 cases h with
 | sh h=>cases h;rfl
 | ow e t=>cases t
def TopV.blI{v:V}{i:Bool}(h:TopV cl w v (.bl i)):v=.bl i:=by
 cases h with
 | sh h=>cases h;rfl
 | ow e t=>cases t
def TopV.nonI{v:V}(h:TopV cl w v .non):v=.non:=by
 cases h with
 | sh h=>cases h;rfl
 | ow e t=>cases t
def Shd.scrI{v:V}{l:List Int}(hK:X.K=cl.K)(h:Shd cl w v (.scr l)):∃a,v=.ref a/\SqL X.K w.H a (l.map V.int):=by
 cases h with
 | scr e k=>exact ⟨_,rfl,.inl (.inr ⟨_,e⟩)⟩
 | scrK h=>exact ⟨_,rfl,by rw [hK];exact h _⟩
theorem TopV.scrI{v:V}{l:List Int}(hK:X.K=cl.K)(h:TopV cl w v (.scr l)):∃a,v=.ref a/\SqL X.K w.H a (l.map V.int):=by
 cases h with
 | sh h=>exact h.scrI hK
 | ow e t=>cases t
def zhB{pins:Z3}{σ:St}{s:Shared}(I:Inv X pins σ w.H s)(hK:X.K=cl.K){v:V}{l:List Int}(h:Shd cl w v (.scr l)){u:Value}(r:zaJ v u):∃as,Reads s.heap u (D.scr l).py as:=by
  obtain ⟨a,rfl,hq⟩:=h.scrI hK;cases r;obtain ⟨its,rv,p,_⟩:=I.list hq;obtain ⟨o,ho,hc,n,hd⟩:=id p.isList
  have go:∀{l:List Int} {us:List Value},Vals (l.map V.int) us->∃as,ReadsAll s.heap us (l.map PyData.int) as:=by
   intro l
   induction l with
   | nil=>intro us h;cases h;exact ⟨_,.nil⟩
   | cons i l ih =>
    intro us h
    cases h with
    | cons h1 h2 =>
     obtain ⟨t,rfl⟩:=h1;obtain ⟨as,ra⟩:=ih h2;exact ⟨_,.cons (.int i t) ra⟩
  obtain ⟨as,ra⟩:=go rv;exact ⟨_,.list ho hc hd (by simpa using ra)⟩
mutual
theorem zqH{pins:Z3}{σ:St}{s:Shared}(I:Inv X pins σ w.H s)(hK:X.K=cl.K):∀{v:V} {d:D} {n:Nat},Shd cl w v d->d.fit n=true->∀{u:Value},zaJ v u->∃as,Reads s.heap u d.py as
 | _,_,_,.non,_,_,r=>by cases r;exact ⟨_,.none⟩
 | _,_,_,.bl b,_,_,r=>by cases r;exact ⟨_,.bool b⟩
 | _,_,_,.int i,_,_,r=>by obtain ⟨t,rfl⟩:=r;exact ⟨_,.int i t⟩
 | _,_,_,.str x,_,_,r=>by obtain ⟨t,rfl⟩:=r;exact ⟨_,.str x t⟩
 | _,_,0,.tup _ _ _,h,_,_=>by simp [D.fit] at h
 | _,_,0,.lst _ _ _,h,_,_=>by simp [D.fit] at h
 | _,_,n+1,.tup (a:=a) e _ rs,h,_,r=>by
  cases r;obtain ⟨its,rv,p,_⟩:=I.tuple (SqT.of (K:=X.K) e);obtain ⟨o,ho,hc,n,hd⟩:=id p;obtain ⟨as,ra⟩:=zcE I hK rs (by simpa [D.fit] using h) rv;exact ⟨_,.tuple ho hc hd (by simpa using ra)⟩
 | _,_,n+1,.lst (a:=a) e _ rs,h,_,r=>by
  cases r;obtain ⟨its,rv,p,_⟩:=I.list (SqL.of (K:=X.K) e);obtain ⟨o,ho,hc,n,hd⟩:=id p.isList;obtain ⟨as,ra⟩:=zcE I hK rs (by simpa [D.fit] using h) rv;exact ⟨_,.list ho hc hd (by simpa using ra)⟩
 | _,_,n,.scr e k,h,_,r=>zhB I hK (.scr e k) r
 | _,_,n,.scrK e,h,_,r=>zhB I hK (.scrK e) r
 | _,_,n,.dicK _ _ _,h,_,_=>by simp [D.fit] at h
 | _,_,n,.dicT _ _ _,h,_,_=>by simp [D.fit] at h
 | _,_,n,.dicN _ _,h,_,_=>by simp [D.fit] at h
 | _,_,n,.ref _,h,_,_=>by simp [D.fit] at h
 | _,_,n,.exc _ _ _,h,_,_=>by simp [D.fit] at h
theorem zcE{pins:Z3}{σ:St}{s:Shared}(I:Inv X pins σ w.H s)(hK:X.K=cl.K):∀{vs:List V} {ds:List D} {n:Nat},Shds cl w vs ds->D.fits n ds=true->∀{us:List Value},Vals vs us->∃as,ReadsAll s.heap us (D.pys ds) as
 | _,_,_,.nil,_,_,r=>by cases r;exact ⟨_,.nil⟩
 | _,_,n,.cons h t,f,_,r=>by
  simp only [D.fits,yab] at f
  cases r with
  | cons r1 r2 =>
   obtain ⟨as,a⟩:=zqH I hK h f.1 r1;obtain ⟨bs,b⟩:=zcE I hK t f.2 r2;exact ⟨_,.cons a b⟩
end
def zf1{pins:Z3}{σ:St}{s:Shared}(I:Inv X pins σ w.H s)(hK:X.K=cl.K){v:V}{d:D}{n:Nat}(h:TopV cl w v d)(f:d.fit n=true){u:Value}(r:zaJ v u):∃as,Reads s.heap u d.py as:=by
 cases h with
 | sh h=>exact zqH I hK h f r
 | ow e t =>
  cases t with
  | lst rs =>
   cases n with
   | zero=>simp [D.fit] at f
   | succ n =>
    cases r;obtain ⟨its,rv,p,_⟩:=I.list (SqL.of (K:=X.K) e);obtain ⟨o,ho,hc,n,hd⟩:=id p.isList;obtain ⟨as,ra⟩:=zcE I hK rs (by simpa [D.fit] using f) rv;exact ⟨_,.list ho hc hd (by simpa using ra)⟩
  | dicK _=>simp [D.fit] at f
  | dicT _=>simp [D.fit] at f
  | dicN=>simp [D.fit] at f
noncomputable def zeA(d e:D):Bool:=d.py.eqv e.py
noncomputable def eqD(d e:D):Option D:=if d.fit 9&&e.fit 9 then some (.bl (zeA d e)) else none
noncomputable def neD(d e:D):Option D:=if d.fit 9&&e.fit 9 then some (.bl (!zeA d e)) else none
def ztM(hK:X.K=cl.K)(hu:X.A.units+64<cLine):OpD X cl (compareOp .Eq) eqD:=by
 intro pins s σ H x y v u Q I rx ry h;obtain ⟨w,d,e,r,rfl,hx,hy,hg,q⟩:=h;unfold eqD at hg;split at hg
 ·rename_i hf;cases hg;rw [yab] at hf;obtain ⟨as,ra⟩:=zf1 I hK hx hf.1 rx;obtain ⟨bs,rb⟩:=zf1 I hK hy hf.2 ry;obtain ⟨l1,d1⟩:=D.lay hf.1;obtain ⟨l2,d2⟩:=D.lay hf.2;exact SeqAt.compareEq_reads ra rb l1 l2 (by omega) ⟨.bl _,w.H,I,rfl,q _ w (Grow.refl _) (.bl _)⟩
 ·cases hg
def ztK(hK:X.K=cl.K)(hu:X.A.units+64<cLine):OpD X cl (compareOp .NotEq) neD:=by
 intro pins s σ H x y v u Q I rx ry h;obtain ⟨w,d,e,r,rfl,hx,hy,hg,q⟩:=h;unfold neD at hg;split at hg
 ·rename_i hf;cases hg;rw [yab] at hf;obtain ⟨as,ra⟩:=zf1 I hK hx hf.1 rx;obtain ⟨bs,rb⟩:=zf1 I hK hy hf.2 ry;obtain ⟨l1,d1⟩:=D.lay hf.1;obtain ⟨l2,d2⟩:=D.lay hf.2;exact SeqAt.compareNe_reads ra rb l1 l2 (by omega) ⟨.bl _,w.H,I,rfl,q _ w (Grow.refl _) (.bl _)⟩
 ·cases hg
noncomputable def zji:D->Option (List D) | .lst l=>some l | .tup l=>some l | _=>none
noncomputable def zhQ(d:D)(l:List D):Bool:=l.any fun e=>zeA e d
noncomputable def inD(d e:D):Option D:=match zji e with | some l=>if d.fit 8&&D.fits 8 l then some (.bl (zhQ d l)) else none | none=>none
noncomputable def zoD(d e:D):Option D:=match zji e with | some l=>if d.fit 8&&D.fits 8 l then some (.bl (!zhQ d l)) else none | none=>none
def zcB{s:Shared}{its:List Value}{ds:List D}{as:List Addr}{d:D}(ra:ReadsAll s.heap its (D.pys ds) as)(f:D.fits 8 ds=true):(its.toArray.any fun y=>(SeqAt.readOf s.heap y).eqv d.py)=zhQ d ds:=by
 rw [SeqAt.any_by_data (vs:=its.toArray) (xs:=D.pys ds) (as:=as) (by simpa using ra) (D.lays f).1]
 have:∀{l:List D},((D.pys l).any fun y=>y.eqv d.py)=zhQ d l:=by
  intro l
  induction l with
  | nil=>rfl
  | cons e l ih =>
   show (e.py.eqv d.py||(D.pys l).any fun y=>y.eqv d.py)=(zeA e d||zhQ d l);rw [ih];rfl
 exact this
theorem zbw{A:Around}{s:Shared}{x:Value}{d:D}{bs:List Addr}(hu:A.units+64<cLine)(rx:Reads s.heap x d.py bs)(fd:d.fit 8=true):∀{its:List Value} {ds:List D} {as:List Addr},ReadsAll s.heap its (D.pys ds) as->D.fits 8 ds=true->∀y,y∈its.toArray->SeqAt.EqAt A.in1 s y x ((SeqAt.readOf s.heap y).eqv d.py)
 | [],[],_,_,_,y,hy=>by simp at hy
 | [],_::_,_,h,_,_,_=>by cases h
 | _::_,[],_,h,_,_,_=>by cases h
 | v::its,e::ds,_,h,f,y,hy=>by
  simp only [D.fits,yab] at f
  cases h with
  | cons h1 h2 =>
   simp at hy
   rcases hy with rfl | hy
   ·rw [zgT (D.lay f.1).1 h1];refine SeqAt.eqAt_reads _ _ _ _ _ _ _ _ h1 rx (D.lay f.1).1 (D.lay fd).1 ?_;have:=(D.lay f.1).2;show A.units+1+_<cLine;omega
   ·exact zbw hu rx fd h2 f.2 y (by simpa using hy)
def zjh{e:D}{l:List D}(h:zji e=some l):e=.lst l\/e=.tup l:=by
 cases e<;>simp [zji] at h
 ·exact .inr (by rw [h])
 ·exact .inl (by rw [h])
def ztL(hK:X.K=cl.K)(hu:X.A.units+64<cLine):OpD X cl (compareOp .In) inD:=by
 intro pins s σ H x y v u Q I rx ry h;obtain ⟨w,d,e,r,rfl,hx,hy,hg,q⟩:=h;unfold inD at hg;split at hg
 ·rename_i l hl;split at hg
  ·rename_i hf;cases hg;rw [yab] at hf;obtain ⟨bs,rb⟩:=zf1 I hK hx hf.1 rx
   rcases zjh hl with rfl | rfl
   ·obtain ⟨a,xs,rfl,e,rs⟩:=hy.lstI;cases ry;obtain ⟨its,rv,p,_⟩:=I.list (SqL.of (K:=X.K) e);obtain ⟨as,ra⟩:=zcE I hK rs hf.2 rv;refine SeqAt.in_listAt _ p.isList (zbw hu rb hf.1 ra hf.2) ?_;rw [zcB ra hf.2];exact ⟨.bl _,w.H,I,rfl,q _ w (Grow.refl _) (.bl _)⟩
   ·obtain ⟨a,xs,rfl,e,_,rs⟩:=hy.tupI;cases ry;obtain ⟨its,rv,p,_⟩:=I.tuple (SqT.of (K:=X.K) e);obtain ⟨as,ra⟩:=zcE I hK rs hf.2 rv;refine SeqAt.in_tupleAt _ p (zbw hu rb hf.1 ra hf.2) ?_;rw [zcB ra hf.2];exact ⟨.bl _,w.H,I,rfl,q _ w (Grow.refl _) (.bl _)⟩
  ·cases hg
 ·cases hg
def zrh(hK:X.K=cl.K)(hu:X.A.units+64<cLine):OpD X cl (compareOp .NotIn) zoD:=by
 intro pins s σ H x y v u Q I rx ry h;obtain ⟨w,d,e,r,rfl,hx,hy,hg,q⟩:=h;unfold zoD at hg;split at hg
 ·rename_i l hl;split at hg
  ·rename_i hf;cases hg;rw [yab] at hf;obtain ⟨bs,rb⟩:=zf1 I hK hx hf.1 rx
   rcases zjh hl with rfl | rfl
   ·obtain ⟨a,xs,rfl,e,rs⟩:=hy.lstI;cases ry;obtain ⟨its,rv,p,_⟩:=I.list (SqL.of (K:=X.K) e);obtain ⟨as,ra⟩:=zcE I hK rs hf.2 rv;refine SeqAt.notIn_listAt _ p.isList (zbw hu rb hf.1 ra hf.2) ?_;rw [zcB ra hf.2];exact ⟨.bl _,w.H,I,rfl,q _ w (Grow.refl _) (.bl _)⟩
   ·obtain ⟨a,xs,rfl,e,_,rs⟩:=hy.tupI;cases ry;obtain ⟨its,rv,p,_⟩:=I.tuple (SqT.of (K:=X.K) e);obtain ⟨as,ra⟩:=zcE I hK rs hf.2 rv;refine SeqAt.notIn_tupleAt _ p (zbw hu rb hf.1 ra hf.2) ?_;rw [zcB ra hf.2];exact ⟨.bl _,w.H,I,rfl,q _ w (Grow.refl _) (.bl _)⟩
  ·cases hg
 ·cases hg
noncomputable def zbU:D->D->Option D
 | .int i,.int j=>some (.int (i+j))
 | .tup a,.tup b=>if zaX (a.length+b.length) then some (.tup (a++b)) else none
 | .lst a,.lst b=>if zaX (a.length+b.length) then some (.lst (a++b)) else none
 | .str a,.str b=>if zaX (a.length+b.length) then some (.str (a++b)) else none
 | _,_=>none
def zrn:OpD X cl (binaryOp .Add) zbU:=by
 intro pins s σ H x y v u Q I rx ry h;obtain ⟨w,d,e,r,rfl,hx,hy,hg,q⟩:=h;unfold zbU at hg;split at hg
 ·cases hg;rename_i i j;obtain rfl:=hx.intI;obtain rfl:=hy.intI;exact zrd pins s σ w.H _ _ v u Q I rx ry ⟨i,j,rfl,rfl,q _ w (Grow.refl _) (.int _)⟩
 ·rename_i a b;split at hg
  ·rename_i hz;cases hg;obtain ⟨p,xs,rfl,ep,kp,rs⟩:=hx.tupI;obtain ⟨p2,ys,rfl,ep2,kp2,rs2⟩:=hy.tupI
   by_cases hxe:xs=[]
   ·subst hxe;cases rs;exact zlQ pins s σ w.H _ _ v u Q I rx ry ⟨p,p2,ys,rfl,rfl,SqT.of ep,SqT.of ep2,q _ w (Grow.refl _) (.tup ep2 kp2 rs2)⟩
   ·refine zow pins s σ w.H _ _ v u Q I rx ry ⟨p,p2,xs,ys,rfl,rfl,SqT.of ep,SqT.of ep2,hxe,by rw [rs.length,rs2.length];exact zaY hz,fun z=>?_,fun z l hl=>?_⟩
    ·subst z;cases rs2;rw [yaK] at q;exact q _ w (Grow.refl _) (.tup ep kp rs)
    ·exact q _ (w.add l _) (zaq hl _) (Shd.newT hl (rs.append rs2))
  ·cases hg
 ·rename_i a b;split at hg
  ·rename_i hz;cases hg;obtain ⟨p,xs,rfl,ep,rs⟩:=hx.lstI;obtain ⟨p2,ys,rfl,ep2,rs2⟩:=hy.lstI;exact zrc pins s σ w.H _ _ v u Q I rx ry ⟨p,p2,xs,ys,rfl,rfl,ep,ep2,by rw [rs.length,rs2.length];exact zaY hz,fun l hl=>q _ (w.add l _) (zaq hl _) (Shd.newL hl (rs.append rs2))⟩
  ·cases hg
 ·rename_i a b;split at hg
  ·rename_i hz;cases hg;obtain rfl:=hx.strI;obtain rfl:=hy.strI;exact ziu pins s σ w.H _ _ v u Q I rx ry ⟨a,b,rfl,rfl,zaY hz,q _ w (Grow.refl _) (.str _)⟩
  ·cases hg
 ·cases hg
noncomputable def zpy:D->D->Option D | .int i,.int j=>some (.int (i-j)) | _,_=>none
def zrg:OpD X cl (binaryOp .Sub) zpy:=by
 intro pins s σ H x y v u Q I rx ry h;obtain ⟨w,d,e,r,rfl,hx,hy,hg,q⟩:=h;unfold zpy at hg;split at hg
 ·cases hg;rename_i i j;obtain rfl:=hx.intI;obtain rfl:=hy.intI;exact zq8 pins s σ w.H _ _ v u Q I rx ry ⟨i,j,rfl,rfl,q _ w (Grow.refl _) (.int _)⟩
 ·cases hg
noncomputable def zby(i:Int):Bool:=decide (-(2 ^ 64)<i/\i<2 ^ 64)
noncomputable def zgW:D->D->Option D
 | .int i,.int j=>if zby i||zby j then some (.int (i*j)) else none
 | .tup a,.int j=>if decide (1<=j/\j<=1000/\a≠[]/\a.length<=1000) then some (.tup (List.replicate j.toNat a).flatten) else none
 | .lst a,.int j=>if decide (0<=j/\j<=1000/\a.length<=1000) then some (.lst (List.replicate j.toNat a).flatten) else none
 | _,_=>none
def zri:OpD X cl (binaryOp .Mult) zgW:=by
 intro pins s σ H x y v u Q I rx ry h;obtain ⟨w,d,e,r,rfl,hx,hy,hg,q⟩:=h;unfold zgW at hg;split at hg
 ·rename_i i j;split at hg
  ·rename_i hz;cases hg;obtain rfl:=hx.intI;obtain rfl:=hy.intI;refine zq9 pins s σ w.H _ _ v u Q I rx ry ⟨i,j,rfl,rfl,?_,q _ w (Grow.refl _) (.int _)⟩;rw [ycf] at hz;exact hz.imp (fun z=>yah z) fun z=>yah z
  ·cases hg
 ·rename_i a j;split at hg
  ·rename_i hz;cases hg;have hz':=yah hz;obtain ⟨p,xs,rfl,ep,kp,rs⟩:=hx.tupI;obtain rfl:=hy.intI;have hl:=rs.length;obtain ⟨k,rfl⟩:∃k:Nat,j=(k:Int):=⟨j.toNat,by omega⟩;have hne:xs≠[]:=fun z=>hz'.2.2.1 (by cases a with | nil=>rfl | cons _ _=>rw [z] at hl;cases hl)
   by_cases hk:k=1
   ·subst hk;cases rx;obtain ⟨t,rfl⟩:=ry;obtain ⟨its,rv,⟨o,ho,hc,n,hd⟩,_⟩:=I.tuple (SqT.of (K:=X.K) ep);refine PySem.zlW ho hc hd ⟨.ref p,w.H,I,rfl,q _ w (Grow.refl _) (.tup ep kp ?_)⟩;simpa using rs
   ·refine zot pins s σ w.H _ _ v u Q I rx ry ⟨p,k,xs,rfl,rfl,SqT.of ep,hne,by omega,by omega,by omega,fun l hl=>q _ (w.add l _) (zaq hl _) (Shd.newT hl (rs.flat _))⟩
  ·cases hg
 ·rename_i a j;split at hg
  ·rename_i hz;cases hg;have hz':=yah hz;obtain ⟨p,xs,rfl,ep,rs⟩:=hx.lstI;obtain rfl:=hy.intI;have hl:=rs.length;refine zm7 pins s σ w.H _ _ v u Q I rx ry ⟨p,j,xs,rfl,rfl,ep,by omega,by omega,?_,fun l hl=>q _ (w.add l _) (zaq hl _) (Shd.newL hl (rs.flat _))⟩;refine yao (ybr (show xs.length<=1000 by omega) (show j.toNat<=1000 by omega)) (by decide)
  ·cases hg
 ·cases hg
noncomputable def zlX:D->D->Option D | .int i,.int j=>if 0<j then some (.int (i % j)) else none | _,_=>none
noncomputable def zrY:D->D->Option D | .int i,.int j=>if 0<j/\j<1073741824 then some (.int (i / j)) else none | _,_=>none
def zrj:OpD X cl (binaryOp .Mod) zlX:=by
 intro pins s σ H x y v u Q I rx ry h;obtain ⟨w,d,e,r,rfl,hx,hy,hg,q⟩:=h;unfold zlX at hg;split at hg
 ·rename_i i j;split at hg
  ·rename_i hz;cases hg;obtain rfl:=hx.intI;obtain rfl:=hy.intI;exact zra pins s σ w.H _ _ v u Q I rx ry ⟨i,j,rfl,rfl,hz,q _ w (Grow.refl _) (.int _)⟩
  ·cases hg
 ·cases hg
def zrm:OpD X cl (binaryOp .FloorDiv) zrY:=by
 intro pins s σ H x y v u Q I rx ry h;obtain ⟨w,d,e,r,rfl,hx,hy,hg,q⟩:=h;unfold zrY at hg;split at hg
 ·rename_i i j;split at hg
  ·rename_i hz;cases hg;obtain rfl:=hx.intI;obtain rfl:=hy.intI;exact zov pins s σ w.H _ _ v u Q I rx ry ⟨i,j,rfl,rfl,hz,q _ w (Grow.refl _) (.int _)⟩
  ·cases hg
 ·cases hg
noncomputable def zpA:D->Option D | .int i=>some (.int (-i)) | _=>none
def zpM:UnD X cl (unaryOp .USub) zpA:=by
 intro pins s σ H x v Q I rx h;obtain ⟨w,d,r,rfl,hx,hg,q⟩:=h;unfold zpA at hg;split at hg
 ·cases hg;rename_i i;obtain rfl:=hx.intI;exact zpL pins s σ w.H _ v Q I rx ⟨i,rfl,q _ w (Grow.refl _) (.int _)⟩
 ·cases hg
noncomputable def zpD(p:Int->Int->Bool):D->D->Option D | .int i,.int j=>some (.bl (p i j)) | _,_=>none
def zfi{op:CmpOp}{p:Int->Int->Bool}(ho:OpR X (compareOp op) (rI0 fun i j=>.bl (p i j))):OpD X cl (compareOp op) (zpD p):=by
 intro pins s σ H x y v u Q I rx ry h;obtain ⟨w,d,e,r,rfl,hx,hy,hg,q⟩:=h;unfold zpD at hg;split at hg
 ·cases hg;rename_i i j;obtain rfl:=hx.intI;obtain rfl:=hy.intI;exact ho pins s σ w.H _ _ v u Q I rx ry ⟨i,j,rfl,rfl,q _ w (Grow.refl _) (.bl _)⟩
 ·cases hg
noncomputable def zco:D->Bool | .non=>true | _=>false
noncomputable def zmg(d e:D):Option D:=if zco e then some (.bl (zco d)) else none
noncomputable def ziv(d e:D):Option D:=if zco e then some (.bl (!zco d)) else none
def TopV.non_iff{v:V}{d:D}(h:TopV cl w v d):decide (v=.non)=zco d:=by
 cases h with
 | sh h=>cases h<;>simp [zco]
 | ow e t=>cases t<;>simp [zco]
def zgf{d:D}(h:zco d=true):d=.non:=by cases d<;>simp [zco] at h;rfl
def zrk:OpD X cl (compareOp .Is) zmg:=by
 intro pins s σ H x y v u Q I rx ry h;obtain ⟨w,d,e,r,rfl,hx,hy,hg,q⟩:=h;unfold zmg at hg;split at hg
 ·rename_i hz;cases hg;rw [zgf hz] at hy;obtain rfl:=hy.nonI;refine zrb pins s σ w.H _ _ v u Q I rx ry ⟨rfl,?_⟩;rw [hx.non_iff];exact q _ w (Grow.refl _) (.bl _)
 ·cases hg
def zoA:OpD X cl (compareOp .IsNot) ziv:=by
 intro pins s σ H x y v u Q I rx ry h;obtain ⟨w,d,e,r,rfl,hx,hy,hg,q⟩:=h;unfold ziv at hg;split at hg
 ·rename_i hz;cases hg;rw [zgf hz] at hy;obtain rfl:=hy.nonI;refine zou pins s σ w.H _ _ v u Q I rx ry ⟨rfl,?_⟩;rw [hx.non_iff];exact q _ w (Grow.refl _) (.bl _)
 ·cases hg
noncomputable def zlS:D->D->Option D | .bl a,.bl b=>some (.bl (!decide (a=b))) | _,_=>none
def zoB:OpD X cl (compareOp .IsNot) zlS:=by
 intro pins s σ H x y v u Q I rx ry h;obtain ⟨w,d,e,r,rfl,hx,hy,hg,q⟩:=h;unfold zlS at hg;split at hg
 ·cases hg;obtain rfl:=hx.blI;obtain rfl:=hy.blI;exact zgU pins s σ w.H _ _ v u Q I rx ry ⟨_,_,rfl,rfl,q _ w (Grow.refl _) (.bl _)⟩
 ·cases hg
noncomputable def ixD:D->D->Option D
 | .lst l,.int i=>atI l i
 | .tup l,.int i=>atI l i
 | .scr l,.int i=>(atI l i).map D.int
 | _,_=>none
def zhx{xs:List V}{ds:List D}(r:Shds cl w xs ds){i:Int}{d:D}(h:atI ds i=some d):∃v,atI xs i=some v/\Shd cl w v d:=by
 unfold atI at h ⊢;rw [r.length]
 cases e:ixN ds.length i with
 | none=>rw [e] at h;cases h
 | some j =>
  rw [e] at h;exact r.at h
def zub(hK:X.K=cl.K):IxD X cl ixD:=by
 intro value slice pins s σ H x y v u Q I rx ry h hsub;obtain ⟨w,d,e,r,rfl,hx,hy,hg,q⟩:=h;unfold ixD at hg;split at hg
 ·rename_i l i;obtain ⟨p,xs,rfl,ep,rs⟩:=hx.lstI;obtain rfl:=hy.intI;obtain ⟨z,e1,e2⟩:=zhx rs hg;exact zkd value slice pins s σ w.H _ _ v u Q I rx ry ⟨p,xs,i,z,rfl,rfl,SqL.of ep,e1,q _ w (Grow.refl _) e2⟩ hsub
 ·rename_i l i;obtain ⟨p,xs,rfl,ep,_,rs⟩:=hx.tupI;obtain rfl:=hy.intI;obtain ⟨z,e1,e2⟩:=zhx rs hg;exact zrG value slice pins s σ w.H _ _ v u Q I rx ry ⟨p,xs,i,z,rfl,rfl,SqT.of ep,e1,q _ w (Grow.refl _) e2⟩ hsub
 ·rename_i l i;obtain ⟨p,rfl,ep⟩:=hx.scrI hK;obtain rfl:=hy.intI
  cases hl:atI l i with
  | none=>rw [hl] at hg;cases hg
  | some k =>
   rw [hl] at hg;cases hg
   have e1:atI (l.map V.int) i=some (.int k):=by
    unfold atI at hl ⊢;rw [yaf]
    cases e:ixN l.length i with
    | none=>rw [e] at hl;cases hl
    | some j =>
     rw [e] at hl;have hl':l[j]?=some k:=hl;show (l.map V.int)[j]?=_;rw [yas,hl'];rfl
   exact zkd value slice pins s σ w.H _ _ v u Q I rx ry ⟨p,_,i,_,rfl,rfl,ep,e1,q _ w (Grow.refl _) (.int _)⟩ hsub
 ·cases hg
noncomputable def zc2:List D->Option D
 | [.lst l]=>some (.int l.length)
 | [.tup l]=>some (.int l.length)
 | [.scr l]=>some (.int l.length)
 | [.str x]=>if zaX x.length then some (.int x.length) else none
 | _=>none
def zr7(hK:X.K=cl.K):ziP X cl (.builtin "len") zc2:=by
 intro pins s σ H xs us Q I r h;obtain ⟨w,ds,d,rfl,hx,hg,q⟩:=h;unfold zc2 at hg;split at hg
 ·rename_i l;cases hg
  cases hx with
  | cons h1 h2 =>
   cases h2;obtain ⟨p,ys,rfl,ep,rs⟩:=h1.lstI;refine zct pins s σ w.H _ us Q I r ⟨p,ys,rfl,.inl (SqL.of ep),?_⟩;rw [rs.length];exact q _ w (Grow.refl _) (.int _)
 ·rename_i l;cases hg
  cases hx with
  | cons h1 h2 =>
   cases h2;obtain ⟨p,ys,rfl,ep,_,rs⟩:=h1.tupI;refine zct pins s σ w.H _ us Q I r ⟨p,ys,rfl,.inr (SqT.of ep),?_⟩;rw [rs.length];exact q _ w (Grow.refl _) (.int _)
 ·rename_i l;cases hg
  cases hx with
  | cons h1 h2 =>
   cases h2;obtain ⟨p,rfl,ep⟩:=h1.scrI hK;refine zct pins s σ w.H _ us Q I r ⟨p,l.map V.int,rfl,.inl ep,?_⟩;rw [yaf];exact q _ w (Grow.refl _) (.int _)
 ·rename_i x;split at hg
  ·rename_i hz;cases hg
   cases hx with
   | cons h1 h2 =>
    cases h2;obtain rfl:=h1.strI;exact zgt pins s σ w.H _ us Q I r ⟨x,rfl,zaY hz,q _ w (Grow.refl _) (.int _)⟩
  ·cases hg
 ·cases hg
noncomputable def zbo:List D->Option D
 | [.lst l]=>some (.tup l)
 | [.tup l]=>some (.tup l)
 | _=>none
def zmD:ziP X cl (.type "tuple") zbo:=by
 intro pins s σ H xs us Q I r h;obtain ⟨w,ds,d,rfl,hx,hg,q⟩:=h;unfold zbo at hg;split at hg
 ·rename_i l;cases hg
  cases hx with
  | cons h1 h2 =>
   cases h2;obtain ⟨p,ys,rfl,ep,rs⟩:=h1.lstI;exact zdn pins s σ w.H _ us Q I r ⟨p,ys,rfl,.inl ⟨SqL.of ep,fun l hl=>q _ (w.add l _) (zaq hl _) (Shd.newT hl rs)⟩⟩
 ·rename_i l;cases hg
  cases hx with
  | cons h1 h2 =>
   cases h2;obtain ⟨p,ys,rfl,ep,kp,rs⟩:=h1.tupI;exact zdn pins s σ w.H _ us Q I r ⟨p,ys,rfl,.inr ⟨SqT.of ep,q _ w (Grow.refl _) (.tup ep kp rs)⟩⟩
 ·cases hg
noncomputable def zfA:List D->Option (List Bool)
 | []=>some []
 | .bl b::l=>(zfA l).map (b::·)
 | _=>none
def zmL{bs:List Bool}{ds:List D}:∀{xs:List V},Shds cl w xs ds->zfA ds=some bs->xs=bs.map V.bl:=by
 induction ds generalizing bs with
 | nil=>intro xs r h;cases r;cases h;rfl
 | cons d ds ih =>
  intro xs r e
  cases r with
  | cons h t =>
   cases d with
   | bl b =>
    cases h;unfold zfA at e
    cases hr:zfA ds with
    | none=>rw [hr] at e;cases e
    | some cs=>rw [hr] at e;cases e;rw [ih t hr];rfl
   | _=>cases e
noncomputable def zpG:List D->Option D
 | [.lst l]=>(zfA l).map fun bs=>.bl (bs.all id)
 | _=>none
def zr8(hc:X.calm=true):ziP X cl (.builtin "all") zpG:=by
 intro pins s σ H xs us Q I r h;obtain ⟨w,ds,d,rfl,hx,hg,q⟩:=h;unfold zpG at hg;split at hg
 ·rename_i l
  cases hb:zfA l with
  | none=>rw [hb] at hg;cases hg
  | some bs =>
   rw [hb] at hg;cases hg
   cases hx with
   | cons h1 h2 =>
    cases h2;obtain ⟨p,ys,rfl,ep,rs⟩:=h1.lstI;obtain rfl:=zmL rs hb;exact zhe hc pins s σ w.H _ us Q I r ⟨p,bs,rfl,SqL.of ep,q _ w (Grow.refl _) (.bl _)⟩
 ·cases hg
noncomputable def zbS:List D->Option (List Int)
 | []=>some []
 | .int b::l=>(zbS l).map (b::·)
 | _=>none
def zgg{bs:List Int}{ds:List D}:∀{xs:List V},Shds cl w xs ds->zbS ds=some bs->xs=bs.map V.int:=by
 induction ds generalizing bs with
 | nil=>intro xs r h;cases r;cases h;rfl
 | cons d ds ih =>
  intro xs r e
  cases r with
  | cons h t =>
   cases d with
   | int b =>
    cases h;unfold zbS at e
    cases hr:zbS ds with
    | none=>rw [hr] at e;cases e
    | some cs=>rw [hr] at e;cases e;rw [ih t hr];rfl
   | _=>cases e
noncomputable def zpx:List D->Option D
 | [.lst l]=>(zbS l).bind fun ns=>if decide (ns.length<=1000)&&ns.all (fun n=>decide (0<=n/\n<=1000000)) then some (.int ns.sum) else none
 | _=>none
def zr6(hc:X.calm=true):ziP X cl (.builtin "sum") zpx:=by
 intro pins s σ H xs us Q I r h;obtain ⟨w,ds,d,rfl,hx,hg,q⟩:=h;unfold zpx at hg;split at hg
 ·rename_i l
  cases hb:zbS l with
  | none=>rw [hb] at hg;cases hg
  | some ns =>
   rw [hb] at hg;dsimp only [Option.bind] at hg;split at hg
   ·rename_i hz;cases hg;rw [yab,ybf] at hz
    cases hx with
    | cons h1 h2 =>
     cases h2;obtain ⟨p,ys,rfl,ep,rs⟩:=h1.lstI;obtain rfl:=zgg rs hb;exact zmG hc pins s σ w.H _ us Q I r ⟨p,ns,rfl,SqL.of ep,yah hz.1,fun n hn=>yah (hz.2 n hn),q _ w (Grow.refl _) (.int _)⟩
   ·cases hg
 ·cases hg
end
end S2
namespace L2
open PySem PySem.Spec PyProof.Rows
section
variable{X:Cx}{e st:Expr}{te ts:TE}{pos p2:Pos}
end
end L2
namespace S2
open PySem PySem.Spec PyProof.Rows L2
noncomputable def zcb(g g':D->D->Option D)(f h k:Fe):Fe:=fun ρ S=>(f ρ S).bind fun a S1=>(h ρ S1).bind fun b S2=>match (g a b).bind isB with
 | some true=>(k ρ S2).bind fun c S3=>Out.of (g' b c) S3
 | some false=>.ok (.bl false) S2
 | none=>.bad
section
variable{X:Cx}{cl:Cf}{E:St->XK}{a b c e:Expr}{f h k:Fe}{pos:Pos}
def zht{g g':D->D->Option D}{r r':R2}(hr:∀x y H Q,(∃w d e r,w.H=H/\TopV cl w x d/\TopV cl w y e/\g d e=some r/\∀v w',Grow w w'->Shd cl w' v r->Q v w'.H)->r x y H Q)
  (hr':∀x y H Q,(∃w d e r,w.H=H/\TopV cl w x d/\TopV cl w y e/\g' d e=some r/\∀v w',Grow w w'->Shd cl w' v r->Q v w'.H)->r' x y H Q) {σ:St} {H:Hp} {Q:VK} (q:tE cl E (zcb g g' f h k) σ H Q):zi8 r r' (tH cl E f) (tH cl E h) (tH cl E k) σ H Q:=by
 obtain ⟨B,w,ρ,S,rfl,R,q⟩:=q;refine ⟨B,w,ρ,S,rfl,R,?_⟩;unfold zcb at q
 cases hf:f ρ S with
 | bad=>rwa [hf] at q
 | exc c S1=>rwa [hf] at q
 | ok d S1 =>
  rw [hf] at q;intro v w1 R1 F1 h1;refine ⟨B,w1,ρ,S1,rfl,R1,?_⟩;dsimp only [Out.bind] at q
  cases hh:h ρ S1 with
  | bad=>rwa [hh] at q
  | exc c S2=>rw [hh] at q;exact fun w2 R2 F2=>q w2 R2 (F1.trans F2)
  | ok e S2 =>
   rw [hh] at q;intro y w2 R2 F2 h2;dsimp only at q
   cases hg:g d e with
   | none=>rw [hg] at q;exact q.elim
   | some z =>
    rw [hg] at q;dsimp only [Option.bind] at q
    cases hb:isB z with
    | none=>rw [hb] at q;exact q.elim
    | some bb =>
     rw [hb] at q;rw [zcw hb] at hg;refine hr _ _ _ _ ⟨w2,d,e,_,rfl,(h1.up F2).top R2,h2.top R2,hg,fun v' w3 gr sh=>⟨bb,zfV sh,?_⟩⟩;have R3:=R2.grow gr
     cases bb with
     | false=>exact znj (q _ w3 R3 (F1.trans (F2.trans gr.fut)) (.bl _))
     | true =>
      refine zni ⟨B,w3,ρ,S2,rfl,R3,?_⟩;dsimp only at q
      cases hk:k ρ S2 with
      | bad=>rwa [hk] at q
      | exc c S3=>rw [hk] at q;exact fun w4 R4 F4=>q w4 R4 (F1.trans (F2.trans (gr.fut.trans F4)))
      | ok c S3 =>
       rw [hk] at q;intro z' w4 R4 F4 h4;dsimp only at q
       cases hg':g' e c with
       | none=>rw [hg'] at q;exact q.elim
       | some r2 =>
        rw [hg'] at q;exact hr' _ _ _ _ ⟨w4,e,c,r2,rfl,(h2.up (gr.fut.trans F4)).top R4,h4.top R4,hg',fun v' w5 gr5 sh5=>q v' w5 (R4.grow gr5) (F1.trans (F2.trans (gr.fut.trans (F4.trans gr5.fut)))) sh5⟩
def zll{op op':CmpOp}{g g':D->D->Option D}(ho:OpD X cl (compareOp op) g)(ho':OpD X cl (compareOp op') g')(ha:PE X a (tH cl E f))(hb:PE X b (tH cl E h))(hc:PE X c (tH cl E k))(hm:lastMarks [op,op'] [b,c]=false):PE X (.Compare a [op,op'] [b,c] pos) (tE cl E (zcb g g' f h k)) :=
 PE.imp (zlJ ho ho' ha hb hc hm) fun _ _ _ q=>zht (fun _ _ _ _ z=>z) (fun _ _ _ _ z=>z) q
def zlg{op op':CmpOp}{g g':D->D->Option D}(ho:OpD X cl (compareOp op) g)(ho':OpD X cl (compareOp op') g')(ha:PE X a (tH cl E f))(hb:PE X b (tH cl E h))(hc:PE X c (tH cl E k))(hm:lastMarks [op,op'] [b,c]=false):PT X (.Compare a [op,op'] [b,c] pos) (tTr cl E (zcb g g' f h k)) :=
 PT.imp (zls ho ho' ha hb hc hm) fun _ _ _ q=>zht (fun _ _ _ _ z=>z) (fun _ _ _ _ z=>z) (zhs q)
noncomputable def zdR{α:Type}(l:List α)(lo hi:Option Int):List α:=(l.drop (HT.sIx l.length 0 lo)).take (HT.sIx l.length l.length hi-HT.sIx l.length 0 lo)
noncomputable def slD(d:D)(lo hi:Option Int):Option D:=match d with
 | .lst l=>some (.lst (zdR l lo hi))
 | .tup l=>some (.tup (zdR l lo hi))
 | _=>none
noncomputable def zcd(o:Option Fe)(ρ:Env)(S:Sto):Out (Option Int):=match o with
 | none=>.ok none S
 | some f=>(f ρ S).bind fun d S1=>match d with | .int i=>.ok (some i) S1 | _=>.bad
noncomputable def eSl(f:Fe)(lo hi:Option Fe):Fe:=fun ρ S=>(f ρ S).bind fun d S1=>(zcd lo ρ S1).bind fun l S2=>(zcd hi ρ S2).bind fun u S3=>Out.of (slD d l u) S3
def zgq{w:Wd}{xs:List V}{ds:List D}(r:Shds cl w xs ds)(lo hi:Option Int):Shds cl w (znr xs lo hi) (zdR ds lo hi):=by
 unfold znr zdR;rw [r.length];exact (r.drop _).take _
noncomputable def SlD(X:Cx)(cl:Cf):Prop:=SlR X fun x lo hi H Q=>∃w d r,w.H=H/\TopV cl w x d/\slD d lo hi=some r/\∀v w',Grow w w'->Shd cl w' v r->Q v w'.H
def ztt:SlD X cl:=by
 intro pins s σ H x v vl vu lo hi sl Q I rx hs pl pu h;obtain ⟨w,d,r,rfl,hx,hg,q⟩:=h;unfold slD at hg;split at hg
 ·rename_i l;cases hg;obtain ⟨p,xs,rfl,ep,rs⟩:=hx.lstI;exact znT pins s σ w.H _ v vl vu lo hi sl Q I rx hs pl pu ⟨p,xs,rfl,SqL.of ep,fun p' hp=>q _ (w.add p' _) (zaq hp _) (Shd.newL hp (zgq rs lo hi))⟩
 ·rename_i l;cases hg;obtain ⟨p,xs,rfl,ep,kp,rs⟩:=hx.tupI
  by_cases hw:HT.sIx xs.length 0 lo=0/\HT.sIx xs.length xs.length hi=xs.length
  ·refine zin pins s σ w.H _ v vl vu lo hi sl Q I rx hs pl pu ⟨p,xs,rfl,SqT.of ep,hw.1,hw.2,q _ w (Grow.refl _) (.tup ep kp ?_)⟩
   have:zdR l lo hi=l:=by
    unfold zdR;rw [<-rs.length,hw.1,hw.2,List.drop_zero,Nat.sub_zero,ybK (by rw [rs.length];exact yal _)]
   rw [this];exact rs
  ·exact zqf pins s σ w.H _ v vl vu lo hi sl Q I rx hs pl pu ⟨p,xs,rfl,SqT.of ep,hw,fun p' hp=>q _ (w.add p' _) (zaq hp _) (Shd.newT hp (zgq rs lo hi))⟩
 ·cases hg
noncomputable def zsp(cl:Cf)(E:St->XK)(o:Option Fe):TO:=match o with | none=>zi7 | some f=>zpU (tH cl E f)
def zqp{lo hi:Option Expr}{fl fh:Option Fe}{p2:Pos}(he:PE X e (tH cl E f))(hl:PO X lo (zsp cl E fl))(hu:PO X hi (zsp cl E fh)):PE X (.Subscript e (.Slice lo hi none p2) pos) (tE cl E (eSl f fl fh)):=by
 refine PE.imp (zlC (ztt (cl:=cl)) he hl hu) ?_;rintro σ H Q ⟨B,w,ρ,S,rfl,R,q⟩;refine ⟨B,w,ρ,S,rfl,R,?_⟩;unfold eSl at q
 cases hf:f ρ S with
 | bad=>rwa [hf] at q
 | exc c S1=>rwa [hf] at q
 | ok d S1 =>
  rw [hf] at q;intro v w1 R1 F1 h1;dsimp only [Out.bind] at q
  have last:∀(l u:Option Int) (w3:Wd) (S3:Sto),Rel cl B σ w3 ρ S3->Fut w1 w3->(match Out.of (slD d l u) S3 with
    | .ok d S'=>∀v w',Rel cl B σ w' ρ S'->Fut w w'->Shd cl w' v d->Q v w'.H
    | .exc c S'=>∀w',Rel cl B σ w' ρ S'->Fut w w'->E σ (.ref (cl c)) none w'.H
    | .bad=>False)->∃w d r,w.H=w3.H/\TopV cl w v d/\slD d l u=some r/\∀v w',Grow w w'->Shd cl w' v r->Q v w'.H:=by
   intro l u w3 S3 R3 F3 q3
   cases hg:slD d l u with
   | none=>rw [hg] at q3;exact q3.elim
   | some r =>
    rw [hg] at q3;exact ⟨w3,d,r,rfl,(h1.up F3).top R3,hg,fun v' w' gr sh=>q3 v' w' (R3.grow gr) (F1.trans (F3.trans gr.fut)) sh⟩
  have second:∀(l:Option Int) (w2:Wd) (S2:Sto),Rel cl B σ w2 ρ S2->Fut w1 w2->(match (zcd fh ρ S2).bind fun u S3=>Out.of (slD d l u) S3 with
    | .ok d S'=>∀v w',Rel cl B σ w' ρ S'->Fut w w'->Shd cl w' v d->Q v w'.H
    | .exc c S'=>∀w',Rel cl B σ w' ρ S'->Fut w w'->E σ (.ref (cl c)) none w'.H
    | .bad=>False)->zsp cl E fh σ w2.H fun u H3=>∃w d r,w.H=H3/\TopV cl w v d/\slD d l u=some r/\∀v w',Grow w w'->Shd cl w' v r->Q v w'.H:=by
   intro l w2 S2 R2 F2 q2
   cases fh with
   | none=>exact last l none w2 S2 R2 F2 q2
   | some fh =>
    refine ⟨B,w2,ρ,S2,rfl,R2,?_⟩;unfold zcd at q2;dsimp only at q2
    cases hh:fh ρ S2 with
    | bad=>rwa [hh] at q2
    | exc c S3=>rw [hh] at q2;exact fun w3 R3 F3=>q2 w3 R3 (F1.trans (F2.trans F3))
    | ok dh S3 =>
     rw [hh] at q2;intro y w3 R3 F3 h3;dsimp only [Out.bind] at q2
     cases dh with
     | int i =>
      refine ⟨i,(h3.top R3).intI,?_⟩;exact last l (some i) w3 S3 R3 (F2.trans F3) q2
     | _=>exact q2.elim
  cases fl with
  | none=>exact second none w1 S1 R1 (Fut.refl _) q
  | some fl =>
   refine ⟨B,w1,ρ,S1,rfl,R1,?_⟩;unfold zcd at q;dsimp only at q
   cases hh:fl ρ S1 with
   | bad=>rwa [hh] at q
   | exc c S3=>rw [hh] at q;exact fun w3 R3 F3=>q w3 R3 (F1.trans F3)
   | ok dl S2 =>
    rw [hh] at q;intro y w2 R2 F2 h2;dsimp only [Out.bind] at q
    cases dl with
    | int i =>
     refine ⟨i,(h2.top R2).intI,?_⟩;exact second (some i) w2 S2 R2 F2 q
    | _=>exact q.elim
noncomputable def zdP(T:String)(d:D):Option D :=
 if T = "int" then (match d with | .int _=>some (.bl true) | .bl _=>some (.bl true) | .non=>some (.bl false) | .str _=>some (.bl false) | .tup _=>some (.bl false) | .lst _=>some (.bl false) | _=>none)
 else if T = "bool" then (match d with | .int _=>some (.bl false) | .bl _=>some (.bl true) | .non=>some (.bl false) | .str _=>some (.bl false) | .tup _=>some (.bl false) | .lst _=>some (.bl false) | _=>none)
 else if T = "tuple" then (match d with | .int _=>some (.bl false) | .bl _=>some (.bl false) | .non=>some (.bl false) | .str _=>some (.bl false) | .tup _=>some (.bl true) | .lst _=>some (.bl false) | _=>none)
 else if T = "str" then (match d with | .int _=>some (.bl false) | .bl _=>some (.bl false) | .non=>some (.bl false) | .str _=>some (.bl true) | .tup _=>some (.bl false) | .lst _=>some (.bl false) | _=>none)
 else if T = "list" then (match d with | .int _=>some (.bl false) | .bl _=>some (.bl false) | .non=>some (.bl false) | .str _=>some (.bl false) | .tup _=>some (.bl false) | .lst _=>some (.bl true) | _=>none)
 else none
def zoX{K:PySem.W.Frag}{w:Wd}{v:V}{d r:D}{T:String}(h:TopV cl w v d)(hg:zdP T d=some r):∃t b,TyOf K w.H v t/\PySem.W.kitOne K t (.type T)=some b/\r=.bl b:=by
 unfold zdP at hg;split at hg
 ·rename_i hT;subst hT
  split at hg<;>cases hg
  ·obtain rfl:=h.intI;exact ⟨_,_,.int _,by with_unfolding_all rfl,rfl⟩
  ·obtain rfl:=h.blI;exact ⟨_,_,.bl _,by with_unfolding_all rfl,rfl⟩
  ·obtain rfl:=h.nonI;exact ⟨_,_,.non,by with_unfolding_all rfl,rfl⟩
  ·obtain rfl:=h.strI;exact ⟨_,_,.str _,by with_unfolding_all rfl,rfl⟩
  ·obtain ⟨_,_,rfl,e,_⟩:=h.tupI;exact ⟨_,_,.tup e,by with_unfolding_all rfl,rfl⟩
  ·obtain ⟨_,_,rfl,e,_⟩:=h.lstI;exact ⟨_,_,.lst e,by with_unfolding_all rfl,rfl⟩
 split at hg
 ·rename_i hT;subst hT
  split at hg<;>cases hg
  ·obtain rfl:=h.intI;exact ⟨_,_,.int _,by with_unfolding_all rfl,rfl⟩
  ·obtain rfl:=h.blI;exact ⟨_,_,.bl _,by with_unfolding_all rfl,rfl⟩
  ·obtain rfl:=h.nonI;exact ⟨_,_,.non,by with_unfolding_all rfl,rfl⟩
  ·obtain rfl:=h.strI;exact ⟨_,_,.str _,by with_unfolding_all rfl,rfl⟩
  ·obtain ⟨_,_,rfl,e,_⟩:=h.tupI;exact ⟨_,_,.tup e,by with_unfolding_all rfl,rfl⟩
  ·obtain ⟨_,_,rfl,e,_⟩:=h.lstI;exact ⟨_,_,.lst e,by with_unfolding_all rfl,rfl⟩
 split at hg
 ·rename_i hT;subst hT
  split at hg<;>cases hg
  ·obtain rfl:=h.intI;exact ⟨_,_,.int _,by with_unfolding_all rfl,rfl⟩
  ·obtain rfl:=h.blI;exact ⟨_,_,.bl _,by with_unfolding_all rfl,rfl⟩
  ·obtain rfl:=h.nonI;exact ⟨_,_,.non,by with_unfolding_all rfl,rfl⟩
  ·obtain rfl:=h.strI;exact ⟨_,_,.str _,by with_unfolding_all rfl,rfl⟩
  ·obtain ⟨_,_,rfl,e,_⟩:=h.tupI;exact ⟨_,_,.tup e,by with_unfolding_all rfl,rfl⟩
  ·obtain ⟨_,_,rfl,e,_⟩:=h.lstI;exact ⟨_,_,.lst e,by with_unfolding_all rfl,rfl⟩
 split at hg
 ·rename_i hT;subst hT
  split at hg<;>cases hg
  ·obtain rfl:=h.intI;exact ⟨_,_,.int _,by with_unfolding_all rfl,rfl⟩
  ·obtain rfl:=h.blI;exact ⟨_,_,.bl _,by with_unfolding_all rfl,rfl⟩
  ·obtain rfl:=h.nonI;exact ⟨_,_,.non,by with_unfolding_all rfl,rfl⟩
  ·obtain rfl:=h.strI;exact ⟨_,_,.str _,by with_unfolding_all rfl,rfl⟩
  ·obtain ⟨_,_,rfl,e,_⟩:=h.tupI;exact ⟨_,_,.tup e,by with_unfolding_all rfl,rfl⟩
  ·obtain ⟨_,_,rfl,e,_⟩:=h.lstI;exact ⟨_,_,.lst e,by with_unfolding_all rfl,rfl⟩
 split at hg
 ·rename_i hT;subst hT
  split at hg<;>cases hg
  ·obtain rfl:=h.intI;exact ⟨_,_,.int _,by with_unfolding_all rfl,rfl⟩
  ·obtain rfl:=h.blI;exact ⟨_,_,.bl _,by with_unfolding_all rfl,rfl⟩
  ·obtain rfl:=h.nonI;exact ⟨_,_,.non,by with_unfolding_all rfl,rfl⟩
  ·obtain rfl:=h.strI;exact ⟨_,_,.str _,by with_unfolding_all rfl,rfl⟩
  ·obtain ⟨_,_,rfl,e,_⟩:=h.tupI;exact ⟨_,_,.tup e,by with_unfolding_all rfl,rfl⟩
  ·obtain ⟨_,_,rfl,e,_⟩:=h.lstI;exact ⟨_,_,.lst e,by with_unfolding_all rfl,rfl⟩
 ·cases hg
def zkT:bootBuiltins "isinstance" = some (.builtin "isinstance"):=by decide +kernel
def zn4{T:String}{x:Str}{p p2:Pos}(hg:Gl X "isinstance")(hm:X.mg "isinstance" = none)(hgT:Gl X x)(hmT:X.mg x=none)(hvT:bootBuiltins x=some (.type T))(hn:x ≠ "__name__")(hdb:(x == ("__debug__":Str))=false)(hp:zbf e=true)(he:PE X e (tH cl E f)) :
  PE X (.Call (.Name "isinstance" p) [e,.Name x p2] [] pos) (tE cl E (eUn (zdP T) f)):=by
 refine PE.imp (zdY zhd hg hm zkT (zbZ he (zbZ (zor (v:=.ty T) hgT hmT hvT rfl hn hdb) zea rfl) (za1 hp)) (he:=za1 hp) (hpl:=rfl)) ?_;rintro σ H Q ⟨B,w,ρ,S,rfl,R,q⟩;refine ⟨B,w,ρ,S,rfl,R,?_⟩;unfold eUn at q
 cases hf:f ρ S with
 | bad=>rwa [hf] at q
 | exc c S1=>rwa [hf] at q
 | ok d S1 =>
  rw [hf] at q;intro v w1 R1 F1 h1;dsimp only [Out.bind] at q
  cases hg:zdP T d with
  | none=>rw [hg] at q;exact q.elim
  | some r =>
   rw [hg] at q;obtain ⟨t,b,h2,h3,rfl⟩:=zoX (K:=X.K) (h1.top R1) hg;exact ⟨v,t,T,b,rfl,h2,h3,q _ w1 R1 F1 (.bl _)⟩
noncomputable def zaz(f:Fe):Fi:=fun ρ S=>(f ρ S).bind fun d S1=>match d with | .lst l=>.ok l S1 | .tup l=>.ok l S1 | _=>.bad
def zqj{tg:Expr}(hK:X.K=cl.K)(he:PE X e (tE cl E f)):PI X tg e (tI cl E (zaz f)):=by
 intro pins s σ H R' I q;obtain ⟨B,w,ρ,S,rfl,R,q⟩:=q;unfold zaz at q
 cases hf:f ρ S with
 | bad=>rw [hf] at q;exact q.elim
 | exc c S1 =>
  refine zjf he pins s σ w.H R' I ⟨B,w,ρ,S,rfl,R,?_⟩;unfold zhZ;rw [hf] at q ⊢;exact q
 | ok d S1 =>
  rw [hf] at q;dsimp only [Out.bind] at q
  cases d with
  | lst l =>
   refine zjf he pins s σ w.H R' I ⟨B,w,ρ,S,rfl,R,?_⟩;unfold zhZ;rw [hf];exact q
  | tup l =>
   refine zqh he pins s σ w.H R' I ⟨B,w,ρ,S,rfl,R,?_⟩;unfold zha;rw [hf];exact q
  | _=>exact q.elim
end
end S2
namespace PySem.F
end PySem.F
namespace L2
open PySem PySem.Spec PyProof.Rows
noncomputable def zc1(b:Bool)(h:Heap)(a:Addr)(vs:Array Value):Prop:=match b with | true=>h.IsList a vs | false=>h.IsTuple a vs
noncomputable def zlb(b:Bool)(h:Heap)(it a:Addr)(j:Nat):Prop:=match b with | true=>h.IsListIter it a j | false=>h.IsTupleIter it a j
noncomputable def itN(b:Bool):String:=match b with | true=>"list_iterator" | false=>"tuple_iterator"
def zc1.keep{b:Bool}{h h':Heap}{a:Addr}{vs:Array Value}(p:zc1 b h a vs)(k:∀o,h.get? a=some o->h'.get? a=some o):zc1 b h' a vs:=by
 cases b with
 | true=>exact Heap.IsList.at p k
 | false=>obtain ⟨o,ho,r⟩:=p;exact ⟨o,k o ho,r⟩
def zc1.inj{b:Bool}{h:Heap}{a:Addr}{vs ws:Array Value}(p:zc1 b h a vs)(q:zc1 b h a ws):vs=ws:=by
 cases b with
 | true=>obtain ⟨o,ho,_,n,e⟩:=p;obtain ⟨o',ho',_,n',e'⟩:=q;rw [ho] at ho';cases ho';rw [e] at e';cases e';rfl
 | false=>obtain ⟨o,ho,_,n,e⟩:=p;obtain ⟨o',ho',_,n',e'⟩:=q;rw [ho] at ho';cases ho';rw [e] at e';cases e';rfl
def zlb.keep{b:Bool}{h h':Heap}{it a:Addr}{j:Nat}(p:zlb b h it a j)(k:∀o,h.get? it=some o->h'.get? it=some o):zlb b h' it a j:=by
 cases b with
 | true=>exact Heap.IsListIter.at p k
 | false=>exact Heap.IsTupleIter.at p k
def zlb.live{b:Bool}{h:Heap}{it a:Addr}{j:Nat}(p:zlb b h it a j):∃o,h.get? it=some o/\∀v,o.data≠.cell v:=by
 cases b with
 | true=>obtain ⟨o,ho,c,d⟩:=p;exact ⟨o,ho,fun v z=>by rw [d] at z;cases z⟩
 | false=>obtain ⟨o,ho,c,d⟩:=p;exact ⟨o,ho,fun v z=>by rw [d] at z;cases z⟩
section
variable{prog:Program}{w:World}{A:Around}{E:Z5}{s:Shared}
def zmu(hh:A.handled=none)(b:Bool)(it t:Addr)(ne:t≠it)(vs:Array Value):Draws prog w A it [it,t] vs.size (fun j v=>vs[j]?=some v) (fun j h=>zlb b h it t j/\zc1 b h t vs):=by
 cases b with
 | false=>exact zgp hh it t ne vs
 | true =>
  exact {
   live:=fun _ _ st=>by obtain ⟨⟨o,ho,_⟩,_⟩:=st;exact ⟨o,ho⟩
   frame:=fun _ _ _ st hk=>⟨st.1.keep fun o e=>hk it (by simp) o e,st.2.keep fun o e=>hk t (by simp) o e⟩
   item:=fun j s Q E hj st hQ=>wpAny_nextOf_list_item (x:=vs[j]) st.1 st.2 (by simp [hj]) fun h' st' sb=>hQ _ h' s.toks (by simp [hj]) ⟨st',st.2.keep fun o e=>(sb.2 t ne).trans e⟩ sb
   done:=fun s Q E st hE=>wpAny_nextOf_list_end hh st.1 st.2 (by simp) fun h' e sb he=>hE h' e sb he }
def zjw{b:Bool}{l:Addr}{vs:Array Value}{Q:Z5}(p:zc1 b s.heap l vs)(h:Q (.ref s.heap.objs.size) { s with heap:=s.heap.push { cls:=.type (itN b),data:=.fields #[.ref l,.int 0 0] } }):wpAny (model prog w) A (pyIter (.ref l)) Q E s:=by
 cases b with
 | true=>exact ybV p h
 | false=>exact ycb p h
noncomputable abbrev IsT(h:Heap)(T:Addr)(os:List Value):Prop:=h.get? T=some { cls:=.type "tuple",data:=.seq os.toArray }
noncomputable abbrev Stops(h:Heap)(e:Addr):Prop:=∃o,h.get? e=some o/\o.cls=.type "StopIteration"
noncomputable def zgC:Nat->List (Bool×Nat)->List Value | _,[]=>[] | a,_::L=>.ref a::zgC (a+1) L
noncomputable def ZAt(k:Nat)(h:Heap):Nat->List (Bool×Nat)->Prop | _,[]=>True | a,p::L=>zlb p.1 h a p.2 k/\ZAt k h (a+1) L
noncomputable def ZGv(k:Nat)(h:Heap):List (Bool×Nat)->List Value->Prop
 | [],[]=>True
 | p::L,x::xs=>(∃vs,zc1 p.1 h p.2 vs/\vs[k]?=some x)/\ZGv k h L xs
 | _,_=>False
theorem ZGv.len{k:Nat}{h:Heap}:∀{L:List (Bool×Nat)} {xs:List Value},ZGv k h L xs->xs.length=L.length
 | [],[],_=>rfl
 | _::_,_::_,g=>congrArg Nat.succ (ZGv.len g.2)
theorem ZAt.keep{k:Nat}{h h':Heap}:∀{L:List (Bool×Nat)} {a:Nat},ZAt k h a L->(∀(c:Nat) (o:Obj),a<=c->c<a+L.length->h.get? c=some o->h'.get? c=some o)->ZAt k h' a L
 | [],_,_,_=>trivial
 | p::L,a,z,f=>⟨z.1.keep fun o e=>f _ o (yal _) (by simp) e,ZAt.keep z.2 fun c o h1 h2 e=>f c o (by omega) (by simp only [yaj];omega) e⟩
theorem zhm:∀(a:Nat) (L:List (Bool×Nat)),(zgC a L).length=L.length
 | _,[]=>rfl
 | a,_::L=>congrArg Nat.succ (zhm (a+1) L)
theorem zhl{β:Type}{z TI TO k:Nat}{f:Value×Nat->β->Sem (ForInStep β)}{b:β}(hTO:TO<z)
  (hf:∀(p:Bool×Nat) (vs:Array Value) (a n:Nat) (os:List Value) (s:Shared) (Q:ForInStep β->Shared->Prop),p.2<a->a<TO->os.length<=9->IsZip s.heap z TI TO .ellipsis->IsT s.heap TO os->zlb p.1 s.heap a p.2 k->zc1 p.1 s.heap p.2 vs →
   (∀x h' tk,vs[k]?=some x->IsT h' TO (os.set n x)->zlb p.1 h' a p.2 (k+1)->h'.objs.size=s.heap.objs.size->(∀(c:Nat) (o:Obj),c≠TO->c≠a->s.heap.get? c=some o->h'.get? c=some o)->Q (.yield b) { s with heap:=h',toks:=tk }) →
   (k=vs.size->∀h' e tk,(∀(c:Nat) (o:Obj),c≠z->c≠a->s.heap.get? c=some o->h'.get? c=some o)->Stops h' e->E (.ref e) { s with heap:=h',toks:=tk }) →
   k<=vs.size->wpAny (model prog w) A (f (.ref a,n) b) Q E s) :
  ∀(L:List (Bool×Nat)) (a n:Nat) (os:List Value) (s:Shared) (Q:β->Shared->Prop),(∀p∈L,p.2<a/\∃vs,zc1 p.1 s.heap p.2 vs/\k<=vs.size)->a+L.length<=TO->os.length=n+L.length->os.length<=9->IsZip s.heap z TI TO .ellipsis->IsT s.heap TO os->ZAt k s.heap a L →
   (∀xs h' tk,ZGv k s.heap L xs->IsT h' TO (os.take n++xs)->ZAt (k+1) h' a L->h'.objs.size=s.heap.objs.size->(∀(c:Nat) (o:Obj),(c<a\/a+L.length<=c)->c≠TO->s.heap.get? c=some o->h'.get? c=some o)->Q b { s with heap:=h',toks:=tk }) →
   ((∃p∈L,∃vs,zc1 p.1 s.heap p.2 vs/\k=vs.size)->∀h' e tk,(∀(c:Nat) (o:Obj),(c<a\/z<c)->s.heap.get? c=some o->h'.get? c=some o)->Stops h' e->E (.ref e) { s with heap:=h',toks:=tk }) →
   wpAny (model prog w) A (forIn ((zgC a L).zipIdx n) b f) Q E s
 | [],a,n,os,s,Q,_,_,hn,_,_,hO,_,hQ,_=>by
  refine yad (hQ [] s.heap s.toks trivial ?_ trivial rfl fun c o _ _ e=>e);rw [yaK,ybK (by simp at hn;omega)];exact hO
 | p::L,a,n,os,s,Q,hL,hT,hn,h9,hz,hO,hA,hQ,hE=>by
  rw [yaj] at hT hn;obtain ⟨hp,vs,hv,hk⟩:=hL p (.head _);show wpAny _ _ (forIn ((.ref a,n)::(zgC (a+1) L).zipIdx (n+1)) b f) _ _ _;rw [ycG];refine yaa (hf p vs a n os s _ hp (by omega) h9 hz hO hA.1 hv (fun x h1 tk hx hO1 hI1 hs1 k1=>?_) (fun hx h' e tk k1=>hE ⟨p,.head _,vs,hv,hx⟩ h' e tk fun c o hc q=>k1 c o (by omega) (by omega) q) hk);have kq:∀q∈L,∀vs,zc1 q.1 s.heap q.2 vs->zc1 q.1 h1 q.2 vs:=fun q hq vs e=>e.keep fun o e=>k1 _ o (by have:=(hL q (.tail _ hq)).1;omega) (by have:=(hL q (.tail _ hq)).1;omega) e
  refine zhl hTO hf L (a+1) (n+1) (os.set n x) _ Q (fun q hq=>?_) (by omega) (by rw [yay];omega) (by rw [yay];exact h9) (k1 _ _ (by omega) (by omega) hz) hO1 (hA.2.keep fun c o c1 c2 e=>k1 c o (by omega) (by omega) e) (fun xs h' tk' gv hO' hA' hs' k'=>?_) (fun ⟨q,hq,ws,hw,hx⟩ h' e tk' k'=>?_)
  ·obtain ⟨h2,ws,hw,hk2⟩:=hL q (.tail _ hq);exact ⟨by omega,ws,kq q hq ws hw,hk2⟩
  ·refine hQ (x::xs) h' tk' ⟨⟨vs,hv,hx⟩,?_⟩ ?_ ⟨hI1.keep fun o e=>k' _ o (.inl (by omega)) (by omega) e,hA'⟩ (hs'.trans hs1) fun c o hc c2 e=>k' c o (by rw [yaj] at hc;omega) c2 (k1 c o c2 (by rw [yaj] at hc;omega) e)
   ·clear hQ hE hO' hA' k'
    have aux:∀(M:List (Bool×Nat)) (ys:List Value),(∀q∈M,q∈L)->ZGv k h1 M ys->ZGv k s.heap M ys:=by
     intro M
     induction M with
     | nil=>intro ys _ g;cases ys<;>exact g
     | cons q M ih =>
      intro ys hM g
      cases ys with
      | nil=>exact g
      | cons y ys =>
       obtain ⟨⟨ws,e1,e2⟩,g2⟩:=g;obtain ⟨_,ws',e3,_⟩:=hL q (.tail _ (hM q (.head _)));have e4:=kq q (hM q (.head _)) ws' e3;refine ⟨⟨ws',e3,?_⟩,ih ys (fun r hr=>hM r (.tail _ hr)) g2⟩;rw [zc1.inj e4 e1];exact e2
    exact aux L xs (fun _ h=>h) gv
   ·have:os.take n++x::xs=(os.set n x).take (n+1)++xs:=by
     rw [List.take_succ,yaA (by omega),List.take_set_of_le (yal _)];simp
    rw [this];exact hO'
  ·obtain ⟨_,ws',e3,_⟩:=hL q (.tail _ hq);exact hE ⟨q,.tail _ hq,ws',e3,by rw [hx,zc1.inj hw (kq q hq ws' e3)]⟩ h' e tk' fun c o hc e=>k' c o (by omega) (k1 c o (by omega) (by omega) e)
def zhk{z TI TO k a:Nat}{L:List (Bool×Nat)}{os:List Value}{Q:Z5}(hh:A.handled=none)(h0:L≠[])(h9:L.length<=9)(e1:TI=a+L.length)(e2:TO=TI+1)(e3:z=TO+1)
  (hL:∀p∈L,p.2<a/\∃vs,zc1 p.1 s.heap p.2 vs/\k<=vs.size) (hz:IsZip s.heap z TI TO .none) (hI:IsT s.heap TI (zgC a L)) (hO:IsT s.heap TO os) (ho:os.length=L.length) (hA:ZAt k s.heap a L)
  (hQ:∀xs h' tk,ZGv k s.heap L xs->IsZip h' z TI TO (rawInt s.heap.objs.size)->IsT h' TO xs->ZAt (k+1) h' a L->IsT h' s.heap.objs.size xs->(∀(c:Nat) (o:Obj),(c<a\/c=TI\/z<c)->s.heap.get? c=some o->h'.get? c=some o)->Q (.ref s.heap.objs.size) { s with heap:=h',toks:=tk })
  (hE:(∃p∈L,∃vs,zc1 p.1 s.heap p.2 vs/\k=vs.size)->∀h' e tk,(∀(c:Nat) (o:Obj),(c<a\/z<c)->s.heap.get? c=some o->h'.get? c=some o)->Stops h' e->E (.ref e) { s with heap:=h',toks:=tk }) :
  wpAny (model prog w) A (Builtin.«zip.__next__» ⟨[.ref z],[]⟩) (fun fin s'=>∃v,fin=.done (.ret v)/\Q v s') E s:=by
 have hne:((zgC a L).toArray.isEmpty)=false:=by
  cases L with
  | nil=>exact absurd rfl h0
  | cons p L=>rfl
 show wpAny _ _ (field (.ref z) 2 >>= _) _ _ _;refine yaa (ybw hz rfl (x:=.bool false) rfl ?_);show wpAny _ _ (field (.ref z) 3 >>= _) _ _ _;refine yaa (ybw hz rfl (x:=.ref TI) rfl ?_);refine yaa (ybJ hI rfl ?_);simp only [hne,yaD,yby];show wpAny _ _ (Builtin.SmallTypes.ownedTupleIsFree (.ref z) >>= _) _ _ _;refine yaa ?_;unfold Builtin.SmallTypes.ownedTupleIsFree;refine yaa (ybw hz rfl (x:=.none) rfl (yad ?_));simp only [ybP];refine yaa (ycC ?_);refine yaa (ybw hz rfl (x:=.ref TO) rfl ?_);refine yaa (ycg hz (by simp) fun h₁ hz₁ hs₁=>?_);replace hz₁:IsZip h₁ z TI TO .ellipsis:=hz₁;have k₁:∀(c:Nat) (o:Obj),c≠z->s.heap.get? c=some o->h₁.get? c=some o:=fun c o hc e=>hs₁.extBut _ _ hc e
 have kq:∀p∈L,∀vs,zc1 p.1 h₁ p.2 vs↔zc1 p.1 s.heap p.2 vs:=fun p hp vs=>by
  have hc:p.2≠z:=by have:=(hL p hp).1;omega
  exact ⟨fun q=>q.keep fun o e=>((hs₁.2 p.2 hc).symm.trans e),fun q=>q.keep fun o e=>k₁ _ o hc e⟩
 refine yaa (zhl (z:=z) (TI:=TI) (TO:=TO) (k:=k) (by omega) (fun p vs b n os s Q hp hb h9 hz hO hI hv hx he hk=>?_) L a 0 os _ _ (fun p hp=>?_) (by omega) (by omega) (by omega) hz₁ (k₁ _ _ (by omega) hO) (hA.keep fun c o c1 c2 e=>k₁ c o (by omega) e) (fun xs h₂ tk gv hO₂ hA₂ hs₂ k₂=>?_) (fun ⟨p,hp,vs,hv,hx⟩ h' e tk k'=>hE ⟨p,hp,vs,(kq p hp vs).1 hv,hx⟩ h' e tk fun c o hc q=>k' c o hc (k₁ c o (by omega) q)))
 ·have D:=zmu (prog:=prog) (w:=w) hh p.1 b p.2 (yar hp) vs;refine yaa (wpAny_onRaise ?_);show wpAny _ _ (Builtin.SmallTypes.nextOf (.ref b) >>= _) _ _ _
  rcases Nat.lt_or_eq_of_le hk with hlt | rfl
  ·refine yaa (D.item k _ _ _ hlt ⟨hI,hv⟩ fun x h₂ tk₂ px hI₂ hs₂=>yad ?_);have hO₂:IsT h₂ TO os:=hs₂.extBut _ _ (yaX hb) hO;refine yaa (ybJ hO₂ rfl ?_);refine yaa (wpAny_updateSeq hO₂ rfl ?_ (by simp;exact yao h9 (by decide)) (by simp;exact yao h9 (by decide)));have hs₃:=Heap.SameBut.update h₂ TO (Obj.mapSeq (·.setIfInBounds n x));refine yaa (wpAny_letGo (yad (hx x _ tk₂ px ?_ (hI₂.1.keep fun o e=>hs₃.extBut _ _ (show b≠TO by omega) e) (hs₃.1.trans hs₂.1) fun c o c1 c2 e=>hs₃.extBut _ _ c1 (hs₂.extBut _ _ c2 e))));show Heap.get? _ TO=_;rw [ybl _ hO₂ rfl];simp [Obj.mapSeq]
  ·refine yaa (D.done _ _ _ ⟨hI,hv⟩ fun h₂ e hs₂ hs=>?_);obtain ⟨oe,hoe,hce⟩:=hs;have hz₂:IsZip h₂ z TI TO .ellipsis:=hs₂ _ _ (show z≠b by omega) hz
   have hez:e≠z:=fun x=>by subst x;rw [hz₂] at hoe;cases hoe;simp at hce
   exact ycg hz₂ (by simp) fun h₃ _ hs₃=>he rfl h₃ e _ (fun c o c1 c2 q=>hs₃.extBut _ _ c1 (hs₂ _ _ c2 q)) ⟨oe,hs₃.extBut _ _ hez hoe,hce⟩
 ·obtain ⟨h1,vs,hv,hk⟩:=hL p hp;exact ⟨h1,vs,(kq p hp vs).2 hv,hk⟩
 ·replace hO₂:IsT h₂ TO xs:=hO₂;refine yaa (ybJ hO₂ rfl ?_);refine yaa (ycs ?_ (hsz:=by rw [show xs.toArray.toList=xs from rfl,gv.len];exact yao h9 (by decide)));have hz₂:IsZip h₂ z TI TO .ellipsis:=k₂ _ _ (.inr (by omega)) (by omega) hz₁;have hsz:h₂.objs.size=s.heap.objs.size:=hs₂.trans hs₁.1;have hzlt:z<h₂.objs.size:=yai hz₂;show wpAny _ _ (Builtin.SmallTypes.ownedTupleHandOut (.ref z) (.ref h₂.objs.size) >>= _) _ _ _;refine yaa ?_;unfold Builtin.SmallTypes.ownedTupleHandOut;have hz₃:IsZip (h₂.push { cls:=.type "tuple",data:=.seq xs.toArray }) z TI TO .ellipsis:=yae _ hz₂;refine yaa (ycg hz₃ (by simp) fun h₄ hz₄ hs₄=>?_);replace hz₄:IsZip h₄ z TI TO (rawInt h₂.objs.size):=hz₄;refine ycg hz₄ (by simp) fun h₅ hz₅ hs₅=>?_
  replace hz₅:IsZip h₅ z TI TO (rawInt h₂.objs.size):=hz₅;have up:∀(c:Nat) (o:Obj),c≠z->h₂.get? c=some o->h₅.get? c=some o:=fun c o c1 e=>hs₅.extBut _ _ c1 (hs₄.extBut _ _ c1 (yae _ e))
  have hT:IsT h₅ h₂.objs.size xs:=hs₅.extBut _ _ (yaX hzlt) (hs₄.extBut _ _ (yaX hzlt) (yam _ rfl));rw [hsz] at hz₅ hT;refine yad ⟨_,rfl,?_⟩;show Q (.ref h₂.objs.size) _;rw [hsz]
  have gv':∀(M:List (Bool×Nat)) (ys:List Value),(∀q∈M,q∈L)->ZGv k h₁ M ys->ZGv k s.heap M ys:=by
   intro M
   induction M with
   | nil=>intro ys _ g;cases ys<;>exact g
   | cons q M ih =>
    intro ys hM g
    cases ys with
    | nil=>exact g
    | cons y ys=>obtain ⟨⟨ws,q1,q2⟩,g2⟩:=g;exact ⟨⟨ws,(kq q (hM q (.head _)) ws).1 q1,q2⟩,ih ys (fun r hr=>hM r (.tail _ hr)) g2⟩
  exact hQ xs h₅ tk (gv' L xs (fun _ h=>h) gv) hz₅ (up _ _ (by omega) hO₂) (hA₂.keep fun c o c1 c2 e=>up c o (by omega) e) hT fun c o hc e=>up c o (by omega) (k₂ c o (by omega) (by omega) (k₁ c o (by omega) e))
def zrJ{b:Bool}{h:Heap}{it a:Addr}(g:h.get? it=some { cls:=.type (itN b),data:=.fields #[.ref a,.int 0 0] }):zlb b h it a 0:=by
 cases b with
 | true=>exact ⟨_,g,rfl,rfl⟩
 | false=>exact ⟨_,g,rfl,rfl⟩
def ziC{L:List (Bool×Nat)}{Q:List Value->Shared->Prop}(hL:∀p∈L,∃vs,zc1 p.1 s.heap p.2 vs)
  (h:∀h',(∀(c:Nat) (o:Obj),s.heap.get? c=some o->h'.get? c=some o)->ZAt 0 h' s.heap.objs.size L->h'.objs.size=s.heap.objs.size+L.length->Q (zgC s.heap.objs.size L) { s with heap:=h' }) :
  wpAny (model prog w) A (Builtin.SmallTypes.iterAll (L.map fun p=>.ref p.2)) Q E s:=by
 have go:∀(L:List (Bool×Nat)) (acc:Array Value) (s:Shared) (Q:Array Value->Shared->Prop),(∀p∈L,∃vs,zc1 p.1 s.heap p.2 vs)->(∀h' r,r.toList=acc.toList++zgC s.heap.objs.size L->(∀(c:Nat) (o:Obj),s.heap.get? c=some o->h'.get? c=some o)->ZAt 0 h' s.heap.objs.size L->h'.objs.size=s.heap.objs.size+L.length->Q r { s with heap:=h' }) →
   wpAny (model prog w) A (forIn (L.map fun p=>Value.ref p.2) acc fun x r=>do let y ← holding r.toList (pyIter x);pure (ForInStep.yield (r.push y))) Q E s:=by
  intro L
  induction L with
  | nil=>intro acc s Q _ h;exact yad (h s.heap acc (by simp [zgC]) (fun _ _ e=>e) trivial rfl)
  | cons p L ih =>
   intro acc s Q hL h;obtain ⟨vs,hv⟩:=hL p (.head _);rw [yau,ycG];refine yaa (yaa (ya5 (zjw hv (yad ?_))));have sz:(s.heap.push { cls:=.type (itN p.1),data:=.fields #[.ref p.2,.int 0 0] }).objs.size=s.heap.objs.size+1:=ya4 ..;refine ih _ _ Q (fun q hq=>?_) (fun h' r hr k za hz=>h h' r ?_ (fun c o e=>k c o (yae _ e)) ⟨zrJ (k _ _ (yam _ rfl)),?_⟩ ?_)
   ·obtain ⟨ws,hw⟩:=hL q (.tail _ hq);exact ⟨ws,hw.keep fun o e=>yae _ e⟩
   ·rw [hr,sz];simp [zgC]
   ·rwa [sz] at za
   ·rw [hz,sz,yaj];omega
 unfold Builtin.SmallTypes.iterAll;refine yaa (go L #[] s _ hL fun h' r hr k za hz=>yad ?_);rw [show r.toList=zgC s.heap.objs.size L from hr];exact h h' k za hz
def zjZ{L:List (Bool×Nat)}(h9:L.length<=9) :
  Meets (Builtin.«zip.__new__» ⟨.type "zip" :: (L.map fun p=>.ref p.2),[]⟩) (fun _ R s=>(∀p∈L,∃vs,zc1 p.1 s.heap p.2 vs) ∧
   ∀h' n,n=s.heap.objs.size->(∀(c:Nat) (o:Obj),s.heap.get? c=some o->h'.get? c=some o)->ZAt 0 h' n L->IsT h' (n+L.length) (zgC n L)->(∃os,os.length=L.length/\IsT h' (n+L.length+1) os)->IsZip h' (n+L.length+2) (n+L.length) (n+L.length+1) .none →
    R (.ok (.ret (.ref (n+L.length+2)))) { s with heap:=h' }) :=
 .of_wp fun prog w A R s h=>by
  obtain ⟨hp,g,d,tk,os⟩:=s;obtain ⟨hl,h⟩:=h;have hsub:=sub_zip;have hl':∀p∈L,∃vs,zc1 p.1 (Shared.heap ⟨hp,g,d,tk,os⟩) p.2 vs:=hl
  wp_walk using ziC hl'
  intro h1 k za hz;have zl:=zhm hp.objs.size L;refine yaa (ycs ?_ (hsz:=by rw [zl];exact yao h9 (by decide)));refine yaa (ycs ?_ (hsz:=by rw [yaf,zl];exact yao h9 (by decide)));refine yaa ?_;unfold Builtin.SmallTypes.newRecord;refine yaR ?_ (hd:=by first | exact trivial | (show (5:Nat)<=_;decide));have z1:∀o,(h1.push o).objs.size=hp.objs.size+L.length+1:=fun o=>(ya4 ..).trans (congrArg (·+1) hz)
  have z2:∀o o',((h1.push o).push o').objs.size=hp.objs.size+L.length+2:=fun o o'=>(ya4 ..).trans (congrArg (·+1) (z1 o))
  have p {h:Heap} {o':Obj} {a:Addr} {o:Obj} (e:h.get? a=some o):(h.push o').get? a=some o:=yae _ e
  have u:∀{h:Heap} {o:Obj} {a:Addr},a=h.objs.size->o.isFreed=false->(h.push o).get? a=some o:=fun e ho=>by rw [e];exact yam _ ho
  refine yad ⟨_,rfl,?_⟩;have r:=h (((h1.push { cls:=.type "tuple",data:=.seq (zgC hp.objs.size L).toArray }).push { cls:=.type "tuple",data:=.seq ((zgC hp.objs.size L).map fun _=>Value.none).toArray }).push { cls:=.type "zip",data:=.fields #[.none,.bool false,.bool false,.ref (hp.objs.size+L.length),.ref (hp.objs.size+L.length+1)] }) _ rfl (fun c o e=>p (p (p (k c o e)))) (za.keep fun c o _ _ e=>p (p (p e))) (p (p (u hz.symm rfl))) ⟨_,by rw [yaf,zl],p (u (z1 _).symm rfl)⟩ (u (z2 _ _).symm rfl);simp only [hz,z1,z2];exact r
end
theorem ZAt.live{k:Nat}{h:Heap}:∀{L:List (Bool×Nat)} {a b:Nat},ZAt k h a L->a<=b->b<a+L.length->∃o,h.get? b=some o/\∀v,o.data≠.cell v
 | [],a,b,_,h1,h2=>absurd h2 (Nat.not_lt.mpr h1)
 | p::L,a,b,z,h1,h2=>by
  rcases Nat.eq_or_lt_of_le h1 with rfl | h3
  ·exact z.1.live
  ·exact ZAt.live z.2 h3 (by rw [yaj] at h2;omega)
theorem ZGv.at{k:Nat}{h:Heap}:∀{L:List (Bool×Nat)} {xs:List Value},ZGv k h L xs->∀p∈L,∃vs,zc1 p.1 h p.2 vs/\k<vs.size
 | p::L,x::xs,g,q,hq=>by
  cases hq with
  | head=>obtain ⟨vs,e1,e2⟩:=g.1;exact ⟨vs,e1,(Array.getElem?_eq_some_iff.mp e2).1⟩
  | tail _ hq=>exact ZGv.at g.2 q hq
noncomputable def zFp(a n:Nat):List Addr:=(List.range (n+3)).map (a+·)
def zbV{a n b:Nat}:b∈zFp a n↔a<=b/\b<a+n+3:=by
 unfold zFp;rw [yaq];exact ⟨fun ⟨j,hj,e⟩=>by rw [ybq] at hj;have e:a+j=b:=e;omega,fun ⟨h1,h2⟩=>⟨b-a,ybq.mpr (by omega),by show a+(b-a)=b;omega⟩⟩
def zgD{a n b:Nat}(h:b ∉ zFp a n):b<a\/a+n+2<b:=by rw [zbV] at h;omega
def zsN{a n b:Nat}(h:b<a+n+3)(h':¬ b<a+n):b=a+n\/b=a+n+1\/b=a+n+2:=by omega
def zpI{a n b:Nat}(h:b<a\/a+n+2<b):b≠a+n+2:=by omega
section
variable{X:Cx}{pins:Z3}{σ:St}{H:Hp}{s:Shared}
noncomputable def SqB(b:Bool)(H:Hp)(a:Addr)(xs:List V):Prop:=match b with | true=>H a=some (.lst xs) | false=>H a=some (.tup xs)
def Inv.sq{b:Bool}{a:Addr}{xs:List V}(I:Inv X pins σ H s)(h:SqB b H a xs):∃its:List Value,Vals xs its/\zc1 b s.heap a its.toArray:=by
 cases b with
 | true=>obtain ⟨its,rv,p,_⟩:=I.list (SqL.of h);exact ⟨its,rv,p.isList⟩
 | false=>obtain ⟨its,rv,p,_⟩:=I.tuple (SqT.of h);exact ⟨its,rv,p⟩
def SqB.inj{b:Bool}{a:Addr}{xs ys:List V}(h:SqB b H a xs)(g:SqB b H a ys):xs=ys:=by
 cases b with
 | true=>have e:=(show H a=_ from h).symm.trans (show H a=_ from g);cases e;rfl
 | false=>have e:=(show H a=_ from h).symm.trans (show H a=_ from g);cases e;rfl
noncomputable def ZGd(i:Nat)(H:Hp):List (Bool×Nat)->List V->Prop
 | [],[]=>True
 | p::L,y::ys=>(∃xs,SqB p.1 H p.2 xs/\xs[i]?=some y)/\ZGd i H L ys
 | _,_=>False
noncomputable def ItZ(L:List (Bool×Nat)):It :=
 ⟨fun i H=>∃ys,ZGd i H L ys,fun i H v H'=>∃t ys,v=.ref t/\H t=none/\H'=upd H t (.tup ys)/\ZGd i H L ys,
  fun i H=>(∀p∈L,∃xs,SqB p.1 H p.2 xs/\i<=xs.length)/\∃p∈L,∃xs,SqB p.1 H p.2 xs/\i=xs.length⟩
theorem ZGd.at{i:Nat}(I:Inv X pins σ H s):∀{L:List (Bool×Nat)} {ys:List V},ZGd i H L ys->∀p∈L,∃vs,zc1 p.1 s.heap p.2 vs/\i<vs.size
 | p::L,x::xs,g,q,hq=>by
  cases hq with
  | head =>
   obtain ⟨vs,e1,e2⟩:=g.1;obtain ⟨its,rv,p1⟩:=I.sq e1;exact ⟨_,p1,by rw [yag,<-rv.length];exact (yan.mp e2).1⟩
  | tail _ hq=>exact ZGd.at I g.2 q hq
theorem ZGd.vals{i:Nat}(I:Inv X pins σ H s):∀{L:List (Bool×Nat)} {ys:List V} {us:List Value},ZGd i H L ys->ZGv i s.heap L us->Vals ys us
 | [],[],[],_,_=>.nil
 | p::L,y::ys,u::us,g,v=>by
  refine .cons ?_ (ZGd.vals I g.2 v.2);obtain ⟨xs,e1,e2⟩:=g.1;obtain ⟨vs,e3,e4⟩:=v.1;obtain ⟨its,rv,p1⟩:=I.sq e1;rw [zc1.inj e3 p1] at e4;obtain ⟨u',hu,ru⟩:=rv.get e2;rw [List.getElem?_toArray,hu] at e4;cases e4;exact ru
def znw{fp:List Addr}{T:Addr}{h2:Heap}{tk:Nat}{us:List Value}{ys:List V}(I:Inv X pins σ H s)(hf:∀b∈fp,zk4 X pins H b)(hT:T=s.heap.objs.size)(te:IsT h2 T us)
  (k:∀b o,b ∉ fp->s.heap.get? b=some o->h2.get? b=some o) (r:Vals ys us) (h9:us.length<=9):Inv X pins σ (upd H T (.tup ys)) { s with heap:=h2,toks:=tk }/\H T=none:=by
 have fr:H T=none:=by rw [hT];exact I.hok.fresh (yal _)
 refine ⟨?_,fr⟩;have I1:Inv X pins σ H { s with heap:=h2,toks:=tk }:=I.turnedL (ch:=fp) (fun b o hb q=>k b o hb q) hf;refine I1.track fr (by rw [hT];exact I.sz) (by rw [hT];exact yaX I.lt) (fun z c q=>?_) (fun p hp=>?_) ?_
 ·obtain ⟨v,cq⟩:=I.cell z c q;rw [hT];exact yar cq.lt
 ·rw [hT];exact yar (yai (I.pin p hp).1)
 ·exact ⟨yao (r.length ▸ h9) (by decide),us,r,_,te,rfl,_,rfl⟩
def zld{P:Program}{w:World}{K:PySem.W.Frag}{elts:List Expr}{x1:Nat}{pos:Pos}(L:List (Bool×Nat))(a:Nat)(h0:L≠[])(h9:L.length<=9)(hL:∀p∈L,p.2<a) :
  Turn P w K (.Tuple elts x1 pos) (ItZ L) (zFp a L.length) (a+L.length+2) (fun i h=>IsZip h (a+L.length+2) (a+L.length) (a+L.length+1) .none/\IsT h (a+L.length) (zgC a L)/\(∃os,os.length=L.length/\IsT h (a+L.length+1) os)/\ZAt i h a L) where
 mem:=zbV.mpr (by omega)
 obj:=fun i h st b hb=>by
  obtain ⟨hz,hI,⟨os,ho,hO⟩,hA⟩:=st;obtain ⟨h1,h2⟩:=zbV.mp hb
  by_cases e:b<a+L.length
  ·exact hA.live h1 e
  ·rcases zsN h2 e with rfl | rfl | rfl
   ·exact ⟨_,hI,fun v e=>by cases e⟩
   ·exact ⟨_,hO,fun v e=>by cases e⟩
   ·exact ⟨_,hz,fun v e=>by cases e⟩
 keep:=fun i h h' st k=>by
  obtain ⟨hz,hI,⟨os,ho,hO⟩,hA⟩:=st;exact ⟨k _ (zbV.mpr (by omega)) _ hz,k _ (zbV.mpr (by omega)) _ hI,⟨os,ho,k _ (zbV.mpr (by omega)) _ hO⟩,hA.keep fun c o c1 c2 e=>k _ (zbV.mpr (by omega)) _ e⟩
 item:=by
  intro X hP hw hK hc i pins s σ H E I hf st hg;subst hP hw hK;obtain ⟨ys,gd⟩:=hg;obtain ⟨hz,hI,⟨os,ho,hO⟩,hA⟩:=st;have hT:s.TypeIs (.ref (a+L.length+2)) "zip":=⟨_,hz,rfl⟩;unfold pyNext
  refine yaa (ycB (yaT (name:=Str.ofString "__next__") hT ycH (yaN ycH hT F.entry_zip_next
   (zhk (A:=X.A.in1) (I.ok.hd hc) h0 h9 rfl rfl rfl (fun p hp=>by obtain ⟨vs,e1,e2⟩:=gd.at I p hp;exact ⟨hL p hp,vs,e1,yb6 e2⟩) hz hI hO ho hA (fun us h' tk gv a1 a2 a3 a4 a5=>yad ?_)
    (fun ⟨p,hp,vs,e1,e2⟩=>by obtain ⟨ws,e3,e4⟩:=gd.at I p hp;rw [zc1.inj e1 e3] at e2;omega)) (F.args_zip_next_1 _))))
  have neT:s.heap.objs.size≠a+L.length+2:=yaX (yai hz);have ltz:a+L.length+2<s.heap.objs.size:=yai hz;refine ⟨_,rfl,wpAny_letOwnedTupleGo_zip a1 fun h2' hz2 sb=>?_⟩;have kb:∀(c:Nat) (o:Obj),c≠a+L.length+2->h'.get? c=some o->h2'.get? c=some o:=fun c o hc e=>(sb.2 c hc).trans e
  obtain ⟨I2,fr⟩:=znw (tk:=tk) (h2:=h2') I hf rfl (kb _ _ neT a4) (fun b o hb q=>kb b o (zpI (zgD hb)) (a5 b o ((zgD hb).elim .inl fun e=>.inr (.inr e)) q)) (gd.vals I gv) (by rw [gv.len];exact h9);refine ⟨.ref s.heap.objs.size,_,I2,rfl,⟨_,ys,rfl,fr,rfl,gd⟩,⟨hz2,kb _ _ (by omega) (a5 _ _ (.inr (.inl rfl)) hI),⟨us,gv.len,kb _ _ (by omega) a2⟩,a3.keep fun c o c1 c2 e=>kb c o (by omega) e⟩,fun b hb=>?_⟩;rw [zag (fun e=>by have:=(zbV.mp (e ▸ hb)).2;omega)];exact (hf b hb).1
 done:=by
  intro X hP hw hK hc i pins s σ H E I hf st hg;subst hP hw hK;obtain ⟨g1,p,hp,xs,e1,e2⟩:=hg;obtain ⟨hz,hI,⟨os,ho,hO⟩,hA⟩:=st;have hT:s.TypeIs (.ref (a+L.length+2)) "zip":=⟨_,hz,rfl⟩;obtain ⟨its,rv,p1⟩:=I.sq e1;unfold pyNext
  refine yaa (ycB (yaT (name:=Str.ofString "__next__") hT ycH (yaN ycH hT F.entry_zip_next
   (zhk (A:=X.A.in1) (I.ok.hd hc) h0 h9 rfl rfl rfl (fun p hp=>by
     obtain ⟨xs,e1,e2⟩:=g1 p hp;obtain ⟨its,rv,p1⟩:=I.sq e1
     exact ⟨hL p hp,_,p1,by rw [yag,<-rv.length];exact e2⟩) hz hI hO ho hA
    (fun us h' tk gv=>by
     obtain ⟨vs,e3,e4⟩:=gv.at p hp;rw [zc1.inj e3 p1,yag,<-rv.length,<-e2] at e4
     exact absurd e4 (yaY _)) (fun _ h' e tk hk he'=>?_)) (F.args_zip_next_1 _))))
  obtain ⟨o,ho,hcl⟩:=he';refine yaa (ybH (T:="StopIteration") (b:=true) ⟨o,ho,hcl⟩ isSubtype_stop ?_);refine yad ⟨rfl,I.turnedL (ch:=zFp a L.length) (fun b o hb q=>?_) hf⟩;exact hk b o (zgD hb) q
 self:=fun _ _ _ _ _ st h=>wpAny_pyIter_zip st.1 h
def zmH:bootBuiltins "zip" = some (.type "zip"):=by decide +kernel
def zpH{elts:List Expr}{x1:Nat}{tp:Pos}{s1:Shared}{H1:Hp}{L:List (Bool×Nat)}{R:It->Hp->Prop}{vs:List Value}(I1:Inv X pins σ H1 s1)(hv:vs=L.map fun p=>.ref p.2)(h0:L≠[])(h9:L.length<=9)(c1:checkTypeCall "zip" ⟨vs,[]⟩=pure ())(c2:checkBuiltinCall "zip.__new__" ⟨.type "zip" :: vs,[]⟩=pure ())(c3:∀obj,argsOk "object.__init__" ⟨obj::vs,[]⟩)
  (hq:∀p∈L,∃xs,SqB p.1 H1 p.2 xs) (q:R (ItZ L) H1) :
  wpAny (model X.prog X.w) X.A (call (.type "zip") vs) (fun v s2=>wpAny (model X.prog X.w) X.A (pyIter v) (PIE X pins σ (.Tuple elts x1 tp) R) X.xe s2) X.xe s1:=by
 subst hv
 have hs:∀p∈L,∃vs,zc1 p.1 s1.heap p.2 vs:=fun p hp=>by
  obtain ⟨xs,e⟩:=hq p hp;obtain ⟨its,_,p1⟩:=I1.sq e;exact ⟨_,p1⟩
 refine callType_new F.called_zip (by decide) c1 c2 c3 F.entry_zip_new (zjZ h9) ⟨hs,fun h' n hn hk za hI hO hz=>?_⟩;refine ⟨⟨_,hz,rfl⟩,wpAny_pyIter_zip hz ?_⟩;refine ⟨n+L.length+2,zFp n L.length,_,_,H1,rfl,I1.kept (t':=s1.toks) hk,zld L n h0 h9 (fun p hp=>?_),⟨hz,hI,hO,za⟩,fun c hb=>?_,q⟩
 ·obtain ⟨vs,e⟩:=hs p hp;rw [hn]
  revert e
  cases p.1 with
  | true=>intro e;obtain ⟨o,ho,_⟩:=e;exact yai ho
  | false=>intro e;obtain ⟨o,ho,_⟩:=e;exact yai ho
 ·have hc:s1.heap.objs.size<=c:=hn ▸ (zbV.mp hb).1;exact I1.fpOk hc (I1.hok.fresh hc)
end
end L2
namespace S2
open PySem PySem.Spec PyProof.Rows L2
section
variable{X:Cx}{cl:Cf}{E:St->XK}{e tg:Expr}{f:Fe}{own:Bool}{pos pos':Pos}
noncomputable def zxI:List D->Option D | [.int i,.int j]=>some (.int (if j<i then j else i)) | _=>none
noncomputable def zdk(l:List D):List D:=l.zipIdx.map fun p=>.tup [.int p.2,p.1]
def zkA(l:List D):(zdk l).length=l.length:=by unfold zdk;rw [yaf,List.length_zipIdx]
def zkB{l:List D}{i:Nat}{d:D}(h:(zdk l)[i]?=some d):∃y,l[i]?=some y/\d=.tup [.int i,y]:=by
 unfold zdk at h;rw [yas,List.getElem?_zipIdx] at h
 cases hl:l[i]? with
 | none=>rw [hl] at h;cases h
 | some y =>
  rw [hl] at h;refine ⟨y,rfl,?_⟩;have:=Option.some.inj h;rw [<-this];simp
noncomputable def zkF(f:Fe):Fi:=fun ρ S=>(zae [f] ρ S).bind fun ds S1=>match ds with | [.lst l]=>.ok (zdk l) S1 | [.tup l]=>.ok (zdk l) S1 | _=>.bad
def znh{S:Hp->Addr->List V->Prop}{w:Wd}{a:Addr}{xs:List V}{l:List D}(hS:∀w',Fut w w'->S w'.H a xs)(r:Shds cl w xs l):ItOk cl w (ItE S a) (zdk l):=by
 have hl:=r.length;have hel:=zkA l;refine ⟨fun w1 F1 i hi=>⟨xs,xs[i]'(by omega),hS w1 F1,yac (by omega)⟩,fun w1 F1=>⟨xs,hS w1 F1,by omega⟩,fun w1 F1 i d x H1 hd y=>?_⟩;obtain ⟨t,v,rfl,ht,rfl,hy⟩:=y;obtain ⟨z,hz,rfl⟩:=zkB hd;have hv:=hy xs (hS w1 F1);obtain ⟨d',e1,e2⟩:=r.get hv;rw [hz] at e1;cases e1;exact ⟨w1.add t _,rfl,zaq ht _,Shd.newT ht (.cons (.int _) (.cons (e2.up F1) .nil))⟩
def znY{es:List Expr}{kk:Nat}{tp p:Pos}(hg:Gl X "enumerate")(hm:X.mg "enumerate" = none)(ha:PA X [e] (tAs cl E [f]))(hs:starEach [e] X.env=[(false,eval e X.env)]):PI X (.Tuple es kk tp) (.Call (.Name "enumerate" p) [e] [] pos) (tI cl E (zkF f)):=by
 intro pins s σ H R' I q;obtain ⟨B,w,ρ,S,rfl,R,q⟩:=q;unfold zkF at q;have L:=zlA (elts:=es) (x1:=kk) (tp:=tp) (p:=p) (pos:=pos) hg hm ha rfl hs pins s σ w.H R' I;have T:=zlz (elts:=es) (x1:=kk) (tp:=tp) (p:=p) (pos:=pos) hg hm ha rfl hs pins s σ w.H R' I
 cases hf:zae [f] ρ S with
 | bad=>rw [hf] at q;exact q.elim
 | exc c S1 =>
  refine L ⟨B,w,ρ,S,rfl,R,?_⟩;rw [hf] at q ⊢;exact q
 | ok ds S1 =>
  rw [hf] at q;dsimp only [Out.bind] at q;split at q
  ·rename_i l' S' hm';split at hm'
   ·rename_i l;cases hm';refine L ⟨B,w,ρ,S,rfl,R,?_⟩;rw [hf];intro vs w' R2 F2 sh
    cases sh with
    | cons h1 h2 =>
     cases h2
     cases h1 with
     | lst ep k r=>exact ⟨_,rfl,⟨_,SqL.of ep⟩,q _ w' R2 F2 (znh (fun w1 F1=>SqL.of (F1.keep _ _ ep k).1) r)⟩
   ·rename_i l;cases hm';refine T ⟨B,w,ρ,S,rfl,R,?_⟩;rw [hf];intro vs w' R2 F2 sh
    cases sh with
    | cons h1 h2 =>
     cases h2
     cases h1 with
     | tup ep k r=>exact ⟨_,rfl,⟨_,SqT.of ep⟩,q _ w' R2 F2 (znh (fun w1 F1=>SqT.of (F1.keep _ _ ep k).1) r)⟩
   ·cases hm'
  ·rename_i hm';split at hm'<;>cases hm'
  ·exact q.elim
noncomputable def zdU:List D->List D->List D
 | x::xs,y::ys=>.tup [x,y]::zdU xs ys
 | _,_=>[]
theorem zdT:∀(xs ys:List D),(zdU xs ys).length=min xs.length ys.length
 | [],_=>by simp [zdU]
 | _::_,[]=>by simp [zdU]
 | _::xs,_::ys=>by simp [zdU,zdT xs ys]
theorem zeX:∀{xs ys:List D} {i:Nat} {d:D},(zdU xs ys)[i]?=some d->∃x y,xs[i]?=some x/\ys[i]?=some y/\d=.tup [x,y]
 | [],_,_,_,h=>by simp [zdU] at h
 | _::_,[],_,_,h=>by simp [zdU] at h
 | x::xs,y::ys,0,d,h=>by
  simp only [zdU,List.getElem?_cons_zero,Option.some.injEq] at h;exact ⟨x,y,rfl,rfl,h.symm⟩
 | x::xs,y::ys,i+1,d,h=>by
  simp only [zdU,ych] at h ⊢;exact zeX h
noncomputable def zqm:D->Option (List D) | .lst l=>some l | .tup l=>some l | _=>none
noncomputable def zk8(f g:Fe):Fi:=fun ρ S=>(zae [f,g] ρ S).bind fun ds S1=>match ds with | [x,y]=>(match zqm x,zqm y with | some l,some k=>.ok (zdU l k) S1 | _,_=>.bad) | _=>.bad
def zrI{b1 b2:Bool}{w:Wd}{l1 l2:Addr}{xs ys:List V}{ds es:List D}(h1:∀w',Fut w w'->SqB b1 w'.H l1 xs)(h2:∀w',Fut w w'->SqB b2 w'.H l2 ys)(r1:Shds cl w xs ds)(r2:Shds cl w ys es):ItOk cl w (ItZ [(b1,l1),(b2,l2)]) (zdU ds es):=by
 have e1:=r1.length;have e2:=r2.length;have el:=zdT ds es;refine ⟨fun w1 F1 i hi=>⟨[xs[i]'(by omega),ys[i]'(by omega)],⟨xs,h1 w1 F1,yac (by omega)⟩,⟨ys,h2 w1 F1,yac (by omega)⟩,trivial⟩,fun w1 F1=>⟨fun p hp=>?_,?_⟩,fun w1 F1 i d x H1 hd y=>?_⟩
 ·simp only [yap,yaJ,ybF] at hp
  rcases hp with rfl | rfl
  ·exact ⟨xs,h1 w1 F1,by omega⟩
  ·exact ⟨ys,h2 w1 F1,by omega⟩
 ·by_cases h:ds.length<=es.length
  ·exact ⟨_,.head _,xs,h1 w1 F1,by omega⟩
  ·exact ⟨_,.tail _ (.head _),ys,h2 w1 F1,by omega⟩
 obtain ⟨t,vs,rfl,ht,rfl,gd⟩:=y;obtain ⟨z1,z2,hz1,hz2,rfl⟩:=zeX hd
 match vs,gd with
 | [v1,v2],⟨⟨xs',g1,hx⟩,⟨ys',g2,hy⟩,_⟩ =>
  cases SqB.inj g1 (h1 w1 F1);cases SqB.inj g2 (h2 w1 F1);obtain ⟨d1,q1,s1⟩:=r1.get hx;obtain ⟨d2,q2,s2⟩:=r2.get hy;rw [hz1] at q1;cases q1;rw [hz2] at q2;cases q2;exact ⟨w1.add t _,rfl,zaq ht _,Shd.newT ht (.cons (s1.up F1) (.cons (s2.up F1) .nil))⟩
def zhy{w:Wd}{v:V}{d:D}{l:List D}(h:Shd cl w v d)(e:zqm d=some l):∃(b:Bool) (a:Addr) (xs:List V),v=.ref a/\(∀w',Fut w w'->SqB b w'.H a xs)/\Shds cl w xs l:=by
 cases h with
 | lst ep k r=>cases e;exact ⟨true,_,_,rfl,fun w1 F1=>(F1.keep _ _ ep k).1,r⟩
 | tup ep k r=>cases e;exact ⟨false,_,_,rfl,fun w1 F1=>(F1.keep _ _ ep k).1,r⟩
 | _=>cases e
theorem zfH:∀{L:List (Bool×Nat)} {us:List Value},Vals (L.map fun p=>V.ref p.2) us->us=L.map fun p=>.ref p.2
 | [],_,r=>by cases r;rfl
 | p::L,_,r=>by
  rw [yau] at r
  cases r with
  | cons h t=>cases h;rw [zfH t];rfl
def znU{a:Expr}{as:List Expr}{fs:List Fe}{F:List D->Sto->Out (List D)}{n:Nat}{es:List Expr}{kk:Nat}{tp p:Pos}(hg:Gl X "zip")(hm:X.mg "zip" = none)(ha:PA X (a::as) (tAs cl E fs))(hs:starEach (a::as) X.env=(false,eval a X.env)::starEach as X.env)(hs2:(backTo pos (starEach as X.env)).any (·.1)=false)
  (hc:∀us:List Value,us.length=n->checkTypeCall "zip" ⟨us,[]⟩=pure ()/\checkBuiltinCall "zip.__new__" ⟨.type "zip" :: us,[]⟩=pure ()/\∀obj,argsOk "object.__init__" ⟨obj::us,[]⟩) (hn:0<n/\n<=9)
  (hF:∀ds S1 (w:Wd) vs,Shds cl w vs ds->F ds S1=.bad\/∃l L,F ds S1=.ok l S1/\L.length=n/\vs=L.map (fun p=>V.ref p.2)/\(∀p∈L,∃xs,SqB p.1 w.H p.2 xs)/\ItOk cl w (ItZ L) l) :
  PI X (.Tuple es kk tp) (.Call (.Name "zip" p) (a::as) [] pos) (tI cl E (fun ρ S=>(zae fs ρ S).bind F)):=by
 intro pins s σ H R' I q;refine Call_ (zdH I hg hm L2.zmH (ya3 (thn (ha pos pins s σ H (fun vs H1=>∃L,L.length=n/\vs=L.map (fun p=>V.ref p.2)/\(∀p∈L,∃xs,SqB p.1 H1 p.2 xs)/\R' (ItZ L) H1) I ?_) fun us s1 ⟨vs,H1,I1,r1,q1⟩=>?_) hs hs2))
 ·obtain ⟨B,w,ρ,S,rfl,R,q⟩:=q;refine ⟨B,w,ρ,S,rfl,R,?_⟩;dsimp only at q
  cases hf:zae fs ρ S with
  | bad=>rw [hf] at q;exact q.elim
  | exc c S1=>rwa [hf] at q
  | ok ds S1 =>
   rw [hf] at q;dsimp only [Out.bind] at q;intro vs w' R2 F2 sh
   rcases hF ds S1 w' vs sh with e | ⟨l,L,e,e1,e2,e3,e4⟩
   ·rw [e] at q;exact q.elim
   ·rw [e] at q;exact ⟨L,e1,e2,e3,q _ w' R2 F2 e4⟩
 ·obtain ⟨L,e1,rfl,e3,q⟩:=q1;have e:=zfH r1;have c:=hc us (by rw [e,yaf,e1]);exact zpH I1 e (fun z=>by rw [z] at e1;exact absurd hn.1 (by rw [<-e1];exact yaY _)) (e1 ▸ hn.2) c.1 c.2.1 c.2.2 e3 q
def zqg{a:Expr}{fa:Fe}{es:List Expr}{kk:Nat}{tp p:Pos}(hg:Gl X "zip")(hm:X.mg "zip" = none)(ha:PA X [a,e] (tAs cl E [fa,f]))(hs:starEach [a,e] X.env=(false,eval a X.env)::starEach [e] X.env)(hs2:(backTo pos (starEach [e] X.env)).any (·.1)=false):PI X (.Tuple es kk tp) (.Call (.Name "zip" p) [a,e] [] pos) (tI cl E (zk8 fa f)) :=
 znU (n:=2) hg hm ha hs hs2 (fun us hu=>match us,hu with | [a,b],_=>⟨F.typeCall_zip_2 a b,F.newCall_zip_2 a b,fun o=>F.args_object_init_3 o a b⟩) (by decide) fun ds S1 w vs sh=>by
  split
  ·rename_i x y;split
   ·rename_i l k hl hk
    cases sh with
    | cons h1 h2 =>
     cases h2 with
     | cons h2 h3 =>
      cases h3;obtain ⟨b1,a1,xs,rfl,p1,r1⟩:=zhy h1 hl;obtain ⟨b2,a2,ys,rfl,p2,r2⟩:=zhy h2 hk;refine .inr ⟨_,[(b1,a1),(b2,a2)],rfl,rfl,rfl,fun p hp=>?_,zrI p1 p2 r1 r2⟩;simp only [yap,yaJ,ybF] at hp
      rcases hp with rfl | rfl
      ·exact ⟨xs,p1 _ (Fut.refl _)⟩
      ·exact ⟨ys,p2 _ (Fut.refl _)⟩
   ·exact .inl rfl
  ·exact .inl rfl
end
end S2
namespace S2
open PySem PySem.Spec PyProof.Rows L2
section
variable{X:Cx}{cl:Cf}{E:St->XK}{e:Expr}{f:Fe}{pos':Pos}
noncomputable def eMt(g:List D->D->Option D)(i:Nat)(f:Fe):Fe:=fun ρ S=>match ρ[i]? with | some (some (_,.lst l))=>(f ρ S).bind fun d S1=>Out.of (g l d) S1 | _=>.bad
noncomputable def zdm(l:List D)(d:D):Option D:=if d.fit 8&&D.fits 8 l then some (.int ((l.countP (zeA · d):Nat):Int)) else none
noncomputable def zgh(l:List D)(d:D):Option D:=if d.fit 8&&D.fits 8 l&&decide (l.length<=1000000)&&zhQ d l then some (.int ((l.findIdx (zeA · d):Nat):Int)) else none
def Rel.lstAny{B:Base}{σ:St}{w:Wd}{ρ:Env}{S:Sto}{i:Nat}{o:Bool}{l:List D}(R:Rel cl B σ w ρ S)(h:ρ[i]?=some (some (o,.lst l))):∃a xs,σ[i]?=some (some (.ref a))/\w.H a=some (.lst xs)/\Shds cl w xs l:=by
 cases o with
 | true=>obtain ⟨a,xs,e1,_,h2,t⟩:=R.list h;exact ⟨a,xs,e1,h2,t⟩
 | false =>
  obtain ⟨v,e1,sh⟩:=R.slots i false _ h
  cases sh with
  | lst ep k r=>exact ⟨_,_,e1,ep,r⟩
noncomputable def MtB(X:Cx)(cl:Cf)(id:String)(g:List D->D->Option D):Prop:=MtM X id fun x vs H Q=>∃(a:Addr) (xs:List V) (l:List D) (w:Wd) (d:D) (v:V) (r:Int),w.H=H/\x=.ref a/\vs=[v]/\w.H a=some (.lst xs)/\Shds cl w xs l/\TopV cl w v d/\g l d=some (.int r)/\Q (.int r) H
theorem zdK{s:Shared}{d:D}:∀{its:List Value} {ds:List D} {as:List Addr},ReadsAll s.heap its (D.pys ds) as->D.fits 8 ds=true->its.countP (fun y=>(SeqAt.readOf s.heap y).eqv d.py)=ds.countP (zeA · d)
 | [],[],_,_,_=>rfl
 | [],_::_,_,h,_=>by cases h
 | _::_,[],_,h,_=>by cases h
 | v::its,e::ds,_,h,f=>by
  simp only [D.fits,yab] at f
  cases h with
  | cons h1 h2 =>
   rw [List.countP_cons,List.countP_cons,zdK h2 f.2,zgT (D.lay f.1).1 h1];rfl
theorem zdu{s:Shared}{d:D}:∀{its:List Value} {ds:List D} {as:List Addr},ReadsAll s.heap its (D.pys ds) as->D.fits 8 ds=true->∀(m:Nat) (hm:m<its.length),∃e,ds[m]?=some e/\(SeqAt.readOf s.heap its[m]).eqv d.py=zeA e d
 | [],_,_,_,_,m,hm=>by simp at hm
 | _::_,[],_,h,_,_,_=>by cases h
 | v::its,e::ds,_,h,f,m,hm=>by
  simp only [D.fits,yab] at f
  cases h with
  | cons h1 h2 =>
   cases m with
   | zero=>exact ⟨e,rfl,by show (SeqAt.readOf s.heap v).eqv d.py=_;rw [zgT (D.lay f.1).1 h1];rfl⟩
   | succ m =>
    obtain ⟨e',h3,h4⟩:=zdu h2 f.2 m (by simpa using hm);exact ⟨e',by simpa using h3,by simpa using h4⟩
theorem zeK{s:Shared}:∀{its:List Value} {ds:List D} {as:List Addr},ReadsAll s.heap its (D.pys ds) as->its.length=ds.length
 | [],[],_,_=>rfl
 | [],_::_,_,h=>by cases h
 | _::_,[],_,h=>by cases h
 | _::its,_::ds,_,h=>by
  cases h with
  | cons _ h2=>rw [yaj,yaj,zeK h2]
def zl1(hK:X.K=cl.K)(hu:X.A.units+64<cLine):MtB X cl "list.count" zdm:=by
 intro pins s σ H x vs v us Q I rx rv h;obtain ⟨a,xs,l,w,d,v',r,rfl,rfl,rfl,hH,sh,tv,hg,q⟩:=h;unfold zdm at hg;split at hg
 ·rename_i hf;cases hg;rw [yab] at hf;cases rx;obtain ⟨u,rfl,ru⟩:=rv.one;obtain ⟨bs,rb⟩:=zf1 I hK tv hf.1 ru;obtain ⟨z,its,n,r,hl,e⟩:=I.lstM hH;obtain ⟨as,ra⟩:=zcE I hK sh hf.2 r;refine ycE F.slot_list_count ⟨_,e,rfl⟩ F.entry_list_count (F.args_list_count_2 _ _) (SeqAt.list_countAt a _ n none #[] u (fun y=>(SeqAt.readOf s.heap y).eqv d.py)) ⟨e,fun y hy=>zbw hu rb hf.1 ra hf.2 y hy,?_⟩;rw [zdK ra hf.2];exact ⟨.int _,w.H,I.tok _,⟨_,rfl⟩,q⟩
 ·cases hg
def zl0(hK:X.K=cl.K)(hu:X.A.units+64<cLine):MtB X cl "list.index" zgh:=by
 intro pins s σ H x vs v us Q I rx rv h;obtain ⟨a,xs,l,w,d,v',r,rfl,rfl,rfl,hH,sh,tv,hg,q⟩:=h;unfold zgh at hg;split at hg
 ·rename_i hf;cases hg;simp only [yab,yaM] at hf;obtain ⟨⟨⟨f1,f2⟩,f3⟩,f4⟩:=hf;cases rx;obtain ⟨u,rfl,ru⟩:=rv.one;obtain ⟨bs,rb⟩:=zf1 I hK tv f1 ru;obtain ⟨z,its,n,r,hl,e⟩:=I.lstM hH;obtain ⟨as,ra⟩:=zcE I hK sh f2 r;have hlen:=zeK ra
  have hlt:l.findIdx (zeA · d)<l.length:=by
   rw [List.findIdx_lt_length];unfold zhQ at f4;rwa [ycw] at f4
  refine ycE F.slot_list_index ⟨_,e,rfl⟩ F.entry_list_index (F.args_list_index_2 _ _) (SeqAt.list_indexAt a _ n none #[] u (fun y=>(SeqAt.readOf s.heap y).eqv d.py) (l.findIdx (zeA · d)) (by rw [yag];omega) (by omega) ?_ ?_) ⟨e,fun y hy=>zbw hu rb f1 ra f2 y hy,?_⟩
  ·obtain ⟨e',h1,h2⟩:=zdu (d:=d) ra f2 (l.findIdx (zeA · d)) (by omega);simp only [List.getElem_toArray];rw [h2];rw [yac hlt] at h1;cases h1;exact List.findIdx_getElem (w:=hlt)
  ·intro m hm hmj
   have lm:m<its.length:=by rwa [yag] at hm
   obtain ⟨e',h1,h2⟩:=zdu (d:=d) ra f2 m lm;simp only [List.getElem_toArray];rw [h2];rw [yac (by omega)] at h1;cases h1;exact List.not_of_lt_findIdx hmj
  ·exact ⟨.int _,w.H,I.tok _,⟨_,rfl⟩,q⟩
 ·cases hg
def zqs{i:Nat}{x name:Str}{id:String}{g:List D->D->Option D}{ap cp:Pos}(slot:Slot "list" name id)(hty:typeOf (.builtin id)=pure (.type "method_descriptor"))(hm:MtB X cl id g)(hgb:∀l d r,g l d=some r->∃n,r=.int n)
  (hN:X.N[i]?=some x) (hv:Vis X.env.scope x) (hd:(x == ("__debug__":Str))=false) (hcd:(x == ("__classdict__":Str))=false) (he:PE X e (tH cl E f)) (hpl:zbf e=true) (hln:(ap.endLine == cp.line)=true) :
  PE X (.Call (.Attribute (.Name x pos') name ap) [e] [] cp) (tE cl E (eMt g i f)):=by
 refine PE.imp (zq4 (es:=[]) PySem.F.plainAttrs_list slot hty hm (zca hN hv hd hcd) (zjg he zmX (za1 hpl)) (hfew:=zkx (by simp [hpl]) (by simp)) (hline:=hln) (hs:=za1 hpl) (hplain:=rfl)) ?_;rintro σ H Q ⟨B,w,ρ,S,rfl,R,q⟩
 have key:(∃o l,ρ[i]?=some (some (o,.lst l)))\/eMt g i f ρ S=.bad:=by
  unfold eMt;split
  ·rename_i o l hl;exact .inl ⟨o,l,hl⟩
  ·exact .inr rfl
 rcases key with ⟨o,l,hl⟩ | hb
 ·have e':eMt g i f ρ S=(f ρ S).bind fun d S1=>Out.of (g l d) S1:=by unfold eMt;rw [hl]
  rw [e'] at q;obtain ⟨a,xs,e1,h2,t⟩:=R.lstAny hl;refine ⟨_,e1,.inl ⟨rfl,_,SqL.of h2⟩,B,w,ρ,S,rfl,R,?_⟩
  cases hf:f ρ S with
  | bad=>rw [hf] at q;exact q.elim
  | exc c S1 =>
   rw [hf] at q;simp only [zae,hf,Out.bind];exact q
  | ok d S1 =>
   rw [hf] at q;simp only [zae,hf,Out.bind];intro vs w' R' F' sh;dsimp only [Out.bind] at q
   cases hg:g l d with
   | none=>rw [hg] at q;exact q.elim
   | some r =>
    rw [hg] at q;obtain ⟨n,rfl⟩:=hgb l d r hg;obtain ⟨a',xs',e1',h2',t'⟩:=R'.lstAny hl;rw [e1] at e1';cases e1'
    cases sh with
    | cons h1 hn =>
     cases hn;exact ⟨a,xs',l,w',d,_,n,rfl,rfl,rfl,h2',t',h1.top R',hg,q _ w' R' F' (.int _)⟩
 ·rw [hb] at q;exact q.elim
end
end S2
namespace S2
open PySem PySem.Spec PyProof.Rows L2
noncomputable def zym(g:Str->Str->Option Bool)(C:Str):D->Option D
 | .exc c=>(g c C).map .bl
 | _=>none
noncomputable def zwN(cl:Cf)(C:Str):Value:=if C = "ValueError" then .type "ValueError" else .ref (cl C)
section
variable{X:Cx}{cl:Cf}{E:St->XK}{own:Bool}{e:Expr}{f fe:Fe}{pos pos':Pos}
def zpE:bootBuiltins "ValueError" = some (.type "ValueError"):=by decide +kernel
noncomputable def OpN(X:Cx)(cl:Cf)(op:Value->Value->Sem Value)(g:D->D->Option D):Prop:=OpR X op fun x y H Q=>∃w d e r,w.H=H/\TopV cl w x d/\TopV cl w y e/\g d e=some r/\∀p o w',Grow w w'->w'.H p=none->Top cl w' o r->Q (.ref p) (upd w'.H p o)
def zxo{a b:Expr}{h:Fe}{gg:D->D->Option D}{r2:R2}(hr:∀x y H Q,(∃w d e r,w.H=H/\TopV cl w x d/\TopV cl w y e/\gg d e=some r/\∀p o w',Grow w w'->w'.H p=none->Top cl w' o r->Q (.ref p) (upd w'.H p o))->r2 x y H Q)(σ:St)(H:Hp)(Q:VK)(q:tN cl E (zai gg f h) σ H Q):tOp r2 (tH cl E f) (tH cl E h) σ H Q:=by
 obtain ⟨B,w,ρ,S,rfl,R,q⟩:=q;refine ⟨B,w,ρ,S,rfl,R,?_⟩;unfold zai at q
 cases hf:f ρ S with
 | bad=>rwa [hf] at q
 | exc c S1=>rwa [hf] at q
 | ok d S1 =>
  rw [hf] at q;intro v w1 R1 F1 h1;refine ⟨B,w1,ρ,S1,rfl,R1,?_⟩;dsimp only [Out.bind] at q
  cases hh:h ρ S1 with
  | bad=>rwa [hh] at q
  | exc c S2=>rw [hh] at q;exact fun w2 R2 F2=>q w2 R2 (F1.trans F2)
  | ok e S2 =>
   rw [hh] at q;intro y w2 R2 F2 h2;dsimp only at q
   cases hg:gg d e with
   | none=>rw [hg] at q;exact q.elim
   | some r =>
    rw [hg] at q;exact hr _ _ _ _ ⟨w2,d,e,r,rfl,(h1.up F2).top R2,h2.top R2,hg,fun p o w' gr hp t=>q p o w' (R2.grow gr) (F1.trans (F2.trans gr.fut)) hp t⟩
noncomputable def ziw:D->D->Option D
 | .lst a,.int j=>if decide (0<=j/\j<=1000/\a.length<=1000) then some (.lst (List.replicate j.toNat a).flatten) else none
 | _,_=>none
def zox:OpN X cl (binaryOp .Mult) ziw:=by
 intro pins s σ H x y v u Q I rx ry h;obtain ⟨w,d,e,r,rfl,hx,hy,hg,q⟩:=h;unfold ziw at hg;split at hg
 ·rename_i a j;split at hg
  ·rename_i hz;cases hg;have hz':=yah hz;obtain ⟨p,xs,rfl,ep,rs⟩:=hx.lstI;obtain rfl:=hy.intI;have hl:=rs.length;refine zm7 pins s σ w.H _ _ v u Q I rx ry ⟨p,j,xs,rfl,rfl,ep,by omega,by omega,?_,fun l hl=>q l _ w (Grow.refl _) hl (.lst (rs.flat _))⟩;refine yao (ybr (show xs.length<=1000 by omega) (show j.toNat<=1000 by omega)) (by decide)
  ·cases hg
 ·cases hg
def zn3{a b:Expr}{h:Fe}(ha:PE X a (tH cl E f))(hb:PE X b (tH cl E h)):PE X (.BinOp a .Mult b pos) (tN cl E (zai ziw f h)) :=
 PE.imp (zqX zox ha hb) (zxo (a:=a) (b:=b) fun _ _ _ _ z=>z)
noncomputable def zoW:Expr->Bool | .List _ _=>true | _=>false
noncomputable def zrL:Operator->Bool | .Mult=>true | _=>false
noncomputable def zjm(i:Nat)(fi fe:Fe):Fs:=fun ρ S=>match ρ[i]? with
 | some (some (true,.lst l))=>(match fe ρ S with
  | .ok d S1=>(match fi ρ S1 with
   | .ok (.int n) S2=>(match ixN l.length n with | some k=>.nx (ρ.set i (some (true,.lst (l.set k d)))) S2 | none=>.bad)
   | .ok _ _=>.bad
   | .exc c S2=>.ex c ρ S2 | .bad=>.bad)
  | .exc c S1=>.ex c ρ S1 | .bad=>.bad)
 | _=>.bad
def znI{i:Nat}{x:Str}{ix:Expr}{fi:Fe}{p2 p3:Pos}(hN:X.N[i]?=some x)(hv:Vis X.env.scope x)(hd:(x == ("__debug__":Str))=false)(hcd:(x == ("__classdict__":Str))=false)
  (he:PE X e (tE cl E fe)) (hi:PE X ix (tH cl E fi)) (sw1:swapsWithSole [.Subscript (.Name x p2) ix p3] e pos.line X.env=pure false) (sw2:swappedStores [.Subscript (.Name x p2) ix p3] e X.env=pure none)
  (ha:∀v,assign (.Subscript (.Name x p2) ix p3) X.env v=(do
   let ov ← holding [v] (eval (.Name x p2) X.env)
   let iv ← holding [v,ov] (eval ix X.env)
   standAt p3
   holding [v,ov,iv] (setItem ov iv v)
   release [v,ov,iv] [])):PS X (.Assign [.Subscript (.Name x p2) ix p3] e pos) (tS cl E own (zjm i fi fe)):=by
 refine PS.imp (zjB he (zm5 (zca hN hv hd hcd) hi zlk ha) sw1 sw2 rfl) ?_;rintro De σ H ⟨B,w,ρ,S,rfl,R,q⟩;refine ⟨B,w,ρ,S,rfl,R,?_⟩;unfold zjm at q;split at q
 ·rename_i l hl
  cases hf:fe ρ S with
  | bad=>rwa [hf] at q
  | exc c S1=>rw [hf] at q;exact fun w' R' F'=>q σ w' R' F'
  | ok d S1 =>
   rw [hf] at q;intro v w1 R1 F1 h1;dsimp only at q;obtain ⟨a,xs,e1,h1',h2',t'⟩:=R1.list hl;refine ⟨_,e1,B,w1,ρ,S1,rfl,R1,?_⟩
   cases hfi:fi ρ S1 with
   | bad=>rwa [hfi] at q
   | exc c S2=>rw [hfi] at q;exact fun w' R' F'=>q σ w' R' (F1.trans F')
   | ok di S2 =>
    rw [hfi] at q;intro vi w2 R2 F2 h2
    cases di with
    | int n =>
     dsimp only at q;split at q
     ·rename_i k hk;obtain rfl:=(h2.top R2).intI;obtain ⟨a',xs',e1',g1,g2,t2⟩:=R2.list hl;rw [e1] at e1';cases e1';refine ⟨a,xs',n,k,rfl,rfl,g2,by rw [t2.length];exact hk,?_⟩;exact q σ (w2.mut a (.lst (xs'.set k v))) (R2.mut (d0:=.non) e1 g1 (.lst (t2.set (h1.up F2) k))) (F1.trans (F2.trans (zdx (by rw [g1];exact yaG _))))
     ·exact q.elim
    | _=>exact q.elim
 ·exact q.elim
end
end S2
namespace PySem.F
end PySem.F
namespace PySem.F
end PySem.F
namespace L2
open PySem PySem.Spec PyProof.Rows
section
variable{prog:Program}{w:World}{A:Around}{E:Z5}{s:Shared}
end
end L2
namespace L2
open PySem PySem.Spec PyProof.Rows
section
variable{X:Cx}
end
end L2
namespace PySem.F
end PySem.F
namespace L2
open PySem PySem.Spec PyProof.Rows
section
variable{prog:Program}{w:World}{A:Around}{E:Z5}{s:Shared}
end
end L2
namespace L2
open PySem PySem.Spec PyProof.Rows
section
variable{X:Cx}
end
end L2
namespace S2
open PySem PySem.Spec PyProof.Rows L2
section
variable{X:Cx}{cl:Cf}{E:St->XK}{e tg:Expr}{f:Fe}{pos pos':Pos}
end
end S2
namespace S2
open PySem PySem.Spec PyProof.Rows L2
section
variable{X:Cx}{cl:Cf}{E:St->XK}{e:Expr}{f:Fe}{pos:Pos}
end
end S2
namespace S2
open PySem PySem.Spec PyProof.Rows L2
noncomputable def zis(f:Str)(o:Bool)(d:D):List (Str×Bool×D)->List (Str×Bool×D)
 | []=>[(f,o,d)]
 | (g,x)::r=>if g=f then (g,o,d)::r else (g,x)::zis f o d r
noncomputable def Ob.put(ob:Ob)(f:Str)(o:Bool)(d:D):Ob:=⟨ob.cls,zis f o d ob.fs⟩
section
variable{cl:Cf}{w:Wd}{n:Nat}
def zcC.len{fs:List (Str×V)}{gs:List (Str×Bool×D)}(h:zcC cl w n fs gs):fs.length=gs.length:=Paired.length h
def zcC.look{fs:List (Str×V)}{gs:List (Str×Bool×D)}(h:zcC cl w n fs gs){f:Str}{o:Bool}{d:D}(e:gs.lookup f=some (o,d)):∃v,fs.lookup f=some v/\zhj cl w (.fld n f) o v d:=by
 induction h with
 | nil=>cases e
 | @cons p q l1 l2 h t ih =>
  obtain ⟨h1,h2⟩:=h;obtain ⟨g,v⟩:=p;obtain ⟨g',o',d'⟩:=q;have h1':g=g':=h1;subst h1';rw [yaz] at e ⊢
  cases hb:f == g with
  | true =>
   rw [hb] at e;cases e;have:=eq_of_beq hb;subst this;exact ⟨v,rfl,h2⟩
  | false =>
   rw [hb] at e;exact ih e
def zcC.miss{fs:List (Str×V)}{gs:List (Str×Bool×D)}(h:zcC cl w n fs gs){f:Str}(e:gs.lookup f=none):fs.lookup f=none:=by
 induction h with
 | nil=>rfl
 | @cons p q l1 l2 h t ih =>
  obtain ⟨h1,h2⟩:=h;obtain ⟨g,v⟩:=p;obtain ⟨g',o',d'⟩:=q;have h1':g=g':=h1;subst h1';rw [yaz] at e ⊢
  cases hb:f == g with
  | true=>rw [hb] at e;cases e
  | false=>rw [hb] at e;exact ih e
def zcC.put{fs:List (Str×V)}{gs:List (Str×Bool×D)}{f:Str}{o:Bool}{d:D}{y:V}(h:zcC cl w n fs gs)(hy:zhj cl w (.fld n f) o y d):zcC cl w n (zcK f y fs) (zis f o d gs):=by
 induction h with
 | nil=>exact .cons ⟨rfl,hy⟩ .nil
 | @cons p q l1 l2 h t ih =>
  obtain ⟨h1,h2⟩:=h;obtain ⟨g,v⟩:=p;obtain ⟨g',o',d'⟩:=q;have h1':g=g':=h1;subst h1';show zcC cl w n (if g=f then (g,y)::l1 else (g,v)::zcK f y l1) (if g=f then (g,o,d)::l2 else (g,o',d')::zis f o d l2)
  by_cases hg:g=f
  ·subst hg;rw [if_pos rfl,if_pos rfl];exact .cons ⟨rfl,hy⟩ t
  ·rw [if_neg hg,if_neg hg];exact .cons ⟨rfl,h2⟩ ih
def zcC.keepBut{w':Wd}(f:Fut w w'){x:Str}(k:∀a o g,g≠x->w.H a=some o->w.ow a=some (.fld n g)->w'.H a=some o/\w'.ow a=some (.fld n g)){fs:List (Str×V)}{gs:List (Str×Bool×D)}(h:zcC cl w n fs gs)(hn:∀q∈gs,q.1=x->q.2.1=false):zcC cl w' n fs gs:=by
 induction h with
 | nil=>exact .nil
 | @cons p q l1 l2 h t ih =>
  obtain ⟨h1,h2⟩:=h;refine .cons ⟨h1,?_⟩ (ih fun q hq=>hn q (yav _ hq))
  by_cases hx:q.1=x
  ·have ho:=hn q yaE hx;rw [ho] at h2 ⊢
   rcases h2 with ⟨_,h2⟩ | ⟨e,_⟩
   ·exact .inl ⟨rfl,Shd.up f h2⟩
   ·cases e
  ·exact h2.keep f fun a o ha hr=>k a o q.1 hx ha hr
def zcC.keepF{w':Wd}(f:Fut w w')(k:∀a o g,w.H a=some o->w.ow a=some (.fld n g)->w'.H a=some o/\w'.ow a=some (.fld n g)){fs:List (Str×V)}{gs:List (Str×Bool×D)}(h:zcC cl w n fs gs):zcC cl w' n fs gs:=by
 induction h with
 | nil=>exact .nil
 | @cons p q l1 l2 h t ih=>exact .cons ⟨h.1,h.2.keep f fun a o ha hr=>k a o q.1 ha hr⟩ ih
variable{B:Base}{σ:St}{ρ:Env}{S:Sto}
def World'.atObj(W:World' cl B w S){ob:Ob}(h:S[n]?=some ob){a:Addr}(e:w.mu[n]?=some a):zsl cl w n a ob:=by
 obtain ⟨a',e',x⟩:=W.obj n ob h;rw [e] at e';cases e';exact x
def zg4{S:Sto}{n m:Nat}{ob ob':Ob}(h:(S.set n ob)[m]?=some ob'):(m=n/\ob'=ob)\/(m≠n/\S[m]?=some ob'):=by
 by_cases e:n=m
 ·subst e
  have hlt:n<S.length:=by
   have:=(yan.mp h).1;rwa [yay] at this
  rw [yaA hlt] at h;cases h;exact .inl ⟨rfl,rfl⟩
 ·rw [yaP e] at h;exact .inr ⟨fun z=>e z.symm,h⟩
def Rel.setf{a dx:Addr}{ob:Ob}{fs:List (Str×V)}{f:Str}{y:V}{d:D}(R:Rel cl B σ w ρ S)(hn:S[n]?=some ob)(hmu:w.mu[n]?=some a)(how:w.ow a=some (.obj n))(hH:w.H a=some (.ins (cl ob.cls) dx fs))(hF:zcC cl w n fs ob.fs)(hy:Shd cl w y d) :
  Rel cl B σ (w.mut a (.ins (cl ob.cls) dx (zcK f y fs))) ρ (S.set n (ob.put f false d))/\Fut w (w.mut a (.ins (cl ob.cls) dx (zcK f y fs))):=by
 have ff:=zdx (w:=w) (p:=a) (o:=.ins (cl ob.cls) dx (zcK f y fs)) (by rw [how];exact yaG _)
 have kp:∀b u,w.H b=some u->w.ow b≠some (.obj n)->(w.mut a (.ins (cl ob.cls) dx (zcK f y fs))).H b=some u/\(w.mut a (.ins (cl ob.cls) dx (zcK f y fs))).ow b=w.ow b:=fun b u hb hne=>⟨by
  show upd w.H a _ b=_
  rw [zag (fun z=>hne (by rw [z];exact how))];exact hb,rfl⟩
 have hB:B.Fr a=none:=(R.wd.own a _ how).elim (fun z=>by cases z) fun z=>z
 refine ⟨⟨⟨fun b u h=>?_,R.wd.own,by rw [yay];exact R.wd.len,fun m ob' h=>?_⟩,R.len,fun i o e h=>?_⟩,ff⟩
 ·refine ⟨?_,(R.wd.fr b u h).2⟩;show upd w.H a _ b=_;rw [zag (fun z=>by rw [z,hB] at h;cases h)];exact (R.wd.fr b u h).1
 ·rcases zg4 h with ⟨rfl,rfl⟩ | ⟨hne,h⟩
  ·refine ⟨a,hmu,how,dx,_,zat,?_⟩;exact zcC.put (hF.keepF ff fun b u g hb hg=>⟨(kp b u hb (by rw [hg];exact fun z=>by cases z)).1,hg⟩) (.inl ⟨rfl,hy.up ff⟩)
  ·obtain ⟨b,e,x⟩:=R.wd.obj m ob' h;exact ⟨b,e,x.keep ff fun b u hb hm=>kp b u hb fun z=>by rw [z] at hm;exact hne hm.symm⟩
 ·obtain ⟨v,e1,x⟩:=R.slots i o e h;exact ⟨v,e1,x.keep ff fun b u hb hr=>⟨(kp b u hb (by rw [hr];exact fun z=>by cases z)).1,hr⟩⟩
noncomputable def Wd.addF(w:Wd)(p:Addr)(o:HO)(n:Nat)(f:Str):Wd:=⟨upd w.H p o,fun b=>if b=p then some (.fld n f) else w.ow b,w.mu⟩
def Rel.newf{a dx p:Addr}{ob:Ob}{fs:List (Str×V)}{f:Str}(R:Rel cl B σ w ρ S)(hn:S[n]?=some ob)(hmu:w.mu[n]?=some a)(how:w.ow a=some (.obj n))(hH:w.H a=some (.ins (cl ob.cls) dx fs))(hF:zcC cl w n fs ob.fs)(hp:w.H p=none) :
  Rel cl B σ ((w.addF p (.ext (DN cl.P cl.wo p [])) n f).mut a (.ins (cl ob.cls) dx (zcK f (.ref p) fs))) ρ (S.set n (ob.put f true (.dic [])))/\Fut w ((w.addF p (.ext (DN cl.P cl.wo p [])) n f).mut a (.ins (cl ob.cls) dx (zcK f (.ref p) fs))):=by
 have hap:a≠p:=zam hH hp
 have kp:∀b u,w.H b=some u->w.ow b≠some (.obj n)->((w.addF p (.ext (DN cl.P cl.wo p [])) n f).mut a (.ins (cl ob.cls) dx (zcK f (.ref p) fs))).H b=some u/\((w.addF p (.ext (DN cl.P cl.wo p [])) n f).mut a (.ins (cl ob.cls) dx (zcK f (.ref p) fs))).ow b=w.ow b:=fun b u hb hne=>by
  have hbp:b≠p:=zam hb hp;refine ⟨?_,?_⟩
  ·show upd (upd w.H p _) a _ b=_;rw [zag (fun z=>hne (by rw [z];exact how)),zag hbp];exact hb
  ·show (if b=p then _ else w.ow b)=_;rw [if_neg hbp]
 have ff:Fut w ((w.addF p (.ext (DN cl.P cl.wo p [])) n f).mut a (.ins (cl ob.cls) dx (zcK f (.ref p) fs))):=⟨fun b u hb hk=>by
  have:=kp b u hb (by rw [hk];exact fun z=>by cases z)
  exact ⟨this.1,this.2.trans hk⟩,fun _ _ h=>h⟩
 have hB:B.Fr a=none:=(R.wd.own a _ how).elim (fun z=>by cases z) fun z=>z
 have hBp:B.Fr p=none:=by
  cases z:B.Fr p with
  | none=>rfl
  | some u=>have:=(R.wd.fr p u z).1;rw [hp] at this;cases this
 have Hp:((w.addF p (.ext (DN cl.P cl.wo p [])) n f).mut a (.ins (cl ob.cls) dx (zcK f (.ref p) fs))).H p=some (.ext (DN cl.P cl.wo p [])):=by
  show upd (upd w.H p _) a _ p=_;rw [zag hap.symm,zat]
 have owp:((w.addF p (.ext (DN cl.P cl.wo p [])) n f).mut a (.ins (cl ob.cls) dx (zcK f (.ref p) fs))).ow p=some (.fld n f):=if_pos rfl
 have owa:((w.addF p (.ext (DN cl.P cl.wo p [])) n f).mut a (.ins (cl ob.cls) dx (zcK f (.ref p) fs))).ow a=some (.obj n):=by
  show (if a=p then _ else w.ow a)=_;rw [if_neg hap];exact how
 refine ⟨⟨⟨fun b u h=>?_,fun b r h=>?_,by rw [yay];exact R.wd.len,fun m ob' h=>?_⟩,R.len,fun i o e h=>?_⟩,ff⟩
 ·have:=kp b u (R.wd.fr b u h).1 fun z=>by
   rcases R.wd.own b _ z with y | y
   ·cases y
   ·rw [h] at y;cases y
  exact ⟨this.1,this.2.trans (R.wd.fr b u h).2⟩
 ·have h':(if b=p then some (Root.fld n f) else w.ow b)=some r:=h;split at h'
  ·rename_i z;rw [z];exact .inr hBp
  ·exact R.wd.own b r h'
 ·rcases zg4 h with ⟨rfl,rfl⟩ | ⟨hne,h⟩
  ·refine ⟨a,hmu,owa,dx,_,zat,?_⟩;refine zcC.put (hF.keepF ff fun b u g hb hg=>?_) (.inr ⟨rfl,p,[],[],[],rfl,owp,Hp,.nil,.nil,rfl⟩);have:=kp b u hb (by rw [hg];exact fun z=>by cases z);exact ⟨this.1,this.2.trans hg⟩
  ·obtain ⟨b,e,x⟩:=R.wd.obj m ob' h;exact ⟨b,e,x.keep ff fun b u hb hm=>kp b u hb fun z=>by rw [z] at hm;exact hne hm.symm⟩
 ·obtain ⟨v,e1,x⟩:=R.slots i o e h
  exact ⟨v,e1,x.keep ff fun b u hb hr=>by
   have:=kp b u hb (by rw [hr];exact fun z=>by cases z)
   exact ⟨this.1,this.2.trans hr⟩⟩
noncomputable def zjV(ob:Ob):Bool:=decide (ob.fs.map (·.1)).Nodup
def zcC.dic{w':Wd}{a:Addr}{f:Str}{d:D}(ff:Fut w w')(k:∀b o g,g≠f->w.H b=some o->w.ow b=some (.fld n g)->w'.H b=some o/\w'.ow b=some (.fld n g))(hy:zhj cl w' (.fld n f) true (.ref a) d):∀{fs:List (Str×V)} {gs:List (Str×Bool×D)},zcC cl w n fs gs->(gs.map (·.1)).Nodup->fs.lookup f=some (.ref a)->zcC cl w' n fs (zis f true d gs):=by
 intro fs gs h
 induction h with
 | nil=>intro _ e;cases e
 | @cons p q l1 l2 h t ih =>
  intro nd e;obtain ⟨h1,h2⟩:=h;obtain ⟨g,v⟩:=p;obtain ⟨g',o',d'⟩:=q;have h1':g=g':=h1;subst h1';rw [yau,ybk] at nd;show zcC cl w' n ((g,v)::l1) (if g=f then (g,true,d)::l2 else (g,o',d')::zis f true d l2);rw [yaz] at e
  by_cases hg:g=f
  ·subst hg;rw [if_pos rfl];simp only [ybA] at e;cases e;refine .cons ⟨rfl,hy⟩ ?_;have t':zcC cl w n l1 l2:=t;exact t'.keepBut ff k fun q hq hx=>absurd (yaq.mpr ⟨q,hq,hx⟩) nd.1
  ·rw [if_neg hg];have hb:(f == g)=false:=ya2.mpr fun z=>hg z.symm
   rw [hb] at e;exact .cons ⟨rfl,h2.keep ff fun b o hb hr=>k b o g hg hb hr⟩ (ih nd.2 e)
def Rel.setd{a dx c:Addr}{ob:Ob}{fs:List (Str×V)}{f:Str}{xs:List (NK×Addr×Value)}{m:List (NK×V)}{ds:List (D×D)}{k:NK}{kb:Addr}{u:Value}{v:V}{d:D}(R:Rel cl B σ w ρ S)(hn:S[n]?=some ob)(hmu:w.mu[n]?=some a)(how:w.ow a=some (.obj n))(hH:w.H a=some (.ins (cl ob.cls) dx fs))(hF:zcC cl w n fs ob.fs)
  (hl:fs.lookup f=some (.ref c)) (hc:w.ow c=some (.fld n f)) (hcH:w.H c=some (.ext (DN cl.P cl.wo c xs))) (he:zid w xs m) (hs:ShdN cl w m ds) (hk:zla w kb k) (rv:zaJ v u) (hv:Shd cl w v d) (nd:zjV ob=true) :
  Rel cl B σ (w.mut c (.ext (DN cl.P cl.wo c (xs++[(k,kb,u)])))) ρ (S.set n (ob.put f true (.dic (ds++[(nkD k,d)]))))/\Fut w (w.mut c (.ext (DN cl.P cl.wo c (xs++[(k,kb,u)])))):=by
 have ff:=zdx (w:=w) (p:=c) (o:=.ext (DN cl.P cl.wo c (xs++[(k,kb,u)]))) (by rw [hc];exact yaG _)
 have kp:∀b o,w.H b=some o->w.ow b≠some (.fld n f)->(w.mut c (.ext (DN cl.P cl.wo c (xs++[(k,kb,u)])))).H b=some o/\(w.mut c (.ext (DN cl.P cl.wo c (xs++[(k,kb,u)])))).ow b=w.ow b:=fun b o hb hne=>⟨by
  show upd w.H c _ b=_
  rw [zag (fun z=>hne (by rw [z];exact hc))];exact hb,rfl⟩
 have hB:B.Fr c=none:=(R.wd.own c _ hc).elim (fun z=>by cases z) fun z=>z
 refine ⟨⟨⟨fun b o h=>?_,R.wd.own,by rw [yay];exact R.wd.len,fun m' ob' h=>?_⟩,R.len,fun i o e h=>?_⟩,ff⟩
 ·refine ⟨?_,(R.wd.fr b o h).2⟩;show upd w.H c _ b=_;rw [zag (fun z=>by rw [z,hB] at h;cases h)];exact (R.wd.fr b o h).1
 ·rcases zg4 h with ⟨rfl,rfl⟩ | ⟨hne,h⟩
  ·refine ⟨a,hmu,how,dx,fs,?_,?_⟩
   ·exact (kp a _ hH (by rw [how];exact fun z=>by cases z)).1
   ·refine zcC.dic (a:=c) ff (fun b o g hg hb hr=>?_) (.inr ⟨rfl,c,_,m++[(k,v)],ds++[(nkD k,d)],rfl,hc,zat,?_,?_,rfl⟩) hF (yah nd) hl
    ·exact ⟨(kp b o hb (by rw [hr];exact fun z=>hg (by cases z;rfl))).1,hr⟩
    ·exact (he.up ff).snoc ⟨rfl,hk.up ff,rv⟩
    ·exact (hs.up ff).snoc (hv.up ff)
  ·obtain ⟨b,e,x⟩:=R.wd.obj m' ob' h;exact ⟨b,e,x.keep ff fun b o hb hm=>kp b o hb fun z=>by rw [z] at hm;exact hne hm.symm⟩
 ·obtain ⟨v',e1,x⟩:=R.slots i o e h;exact ⟨v',e1,x.keep ff fun b o hb hr=>⟨(kp b o hb (by rw [hr];exact fun z=>by cases z)).1,hr⟩⟩
noncomputable def Wd.addO(w:Wd)(x dx C:Addr)(n:Nat):Wd:=⟨upd (upd w.H dx (.own x)) x (.ins C dx []),fun b=>if b=x then some (.obj n) else if b=dx then none else w.ow b,w.mu++[x]⟩
def Rel.made{x dx:Addr}{c:Str}(R:Rel cl B σ w ρ S)(hx:w.H x=none)(hdx:w.H dx=none)(ne:dx≠x):Rel cl B σ (w.addO x dx (cl c) S.length) ρ (S++[⟨c,[]⟩])/\Fut w (w.addO x dx (cl c) S.length):=by
 have kp:∀b o,w.H b=some o->(w.addO x dx (cl c) S.length).H b=some o/\(w.addO x dx (cl c) S.length).ow b=w.ow b:=fun b o hb=>by
  have n1:b≠x:=zam hb hx;have n2:b≠dx:=zam hb hdx;refine ⟨?_,?_⟩
  ·show upd (upd w.H dx _) x _ b=_;rw [zag n1,zag n2];exact hb
  ·show (if b=x then _ else if b=dx then _ else w.ow b)=_;rw [if_neg n1,if_neg n2]
 have ff:Fut w (w.addO x dx (cl c) S.length):=⟨fun b o hb hk=>⟨(kp b o hb).1,(kp b o hb).2.trans hk⟩,fun n a h=>by
  show (w.mu++[x])[n]?=some a
  rw [yaL (yan.mp h).1];exact h⟩
 have hBx:B.Fr x=none:=by
  cases z:B.Fr x with
  | none=>rfl
  | some u=>have:=(R.wd.fr x u z).1;rw [hx] at this;cases this
 refine ⟨⟨⟨fun b o h=>?_,fun b r h=>?_,by show (w.mu++[x]).length=_;rw [yaw,yaw,R.wd.len];rfl,fun m ob h=>?_⟩,R.len,fun i o e h=>?_⟩,ff⟩
 ·have:=kp b o (R.wd.fr b o h).1;exact ⟨this.1,this.2.trans (R.wd.fr b o h).2⟩
 ·have h':(if b=x then some (Root.obj S.length) else if b=dx then none else w.ow b)=some r:=h;split at h'
  ·rename_i z;rw [z];exact .inr hBx
  ·split at h'
   ·cases h'
   ·exact R.wd.own b r h'
 ·by_cases hm:m<S.length
  ·rw [yaL hm] at h;obtain ⟨b,e,y⟩:=R.wd.obj m ob h;exact ⟨b,ff.mu _ _ e,y.keep ff fun b o hb _=>kp b o hb⟩
  ·have hm':m=S.length:=by
    have:=(yan.mp h).1;rw [yaw,List.length_singleton] at this;omega
   subst hm';rw [yax (yal _),ycR] at h;cases h;refine ⟨x,?_,if_pos rfl,dx,[],zat,.nil⟩;show (w.mu++[x])[S.length]?=some x;rw [yax (by rw [R.wd.len];exact yal _),R.wd.len,ycR];rfl
 ·obtain ⟨v,e1,y⟩:=R.slots i o e h;exact ⟨v,e1,y.keep ff fun b o hb hr=>⟨(kp b o hb).1,(kp b o hb).2.trans hr⟩⟩
end
end S2
namespace S2
open PySem PySem.Spec PyProof.Rows L2
noncomputable def zlO:D->Option (Option Int) | .non=>some none | .int i=>some (some i) | _=>none
noncomputable def zdc:List D->Option (List (Option Int))
 | []=>some []
 | d::r=>(zlO d).bind fun o=>(zdc r).map (o::·)
noncomputable def zk7:D->Option NK
 | .tup [.int i,.tup l]=>(zdc l).map fun os=>(i,os)
 | _=>none
noncomputable def zcX(k:NK):List (D×D)->Option D
 | []=>none
 | (q,d)::r=>if zk7 q=some k then some d else zcX k r
def zjR(o:Option Int):zlO (oDn o)=some o:=by cases o<;>rfl
theorem zeL:∀l:List (Option Int),zdc (l.map oDn)=some l
 | []=>rfl
 | o::l=>by rw [yau];unfold zdc;rw [zjR,zeL l];rfl
def zlU(k:NK):zk7 (nkD k)=some k:=by
 show (zdc (k.2.map oDn)).map (fun os=>(k.1,os))=some k;rw [zeL];rfl
section
variable{cl:Cf}{w:Wd}
theorem zjQ:∀{xs:List V} {ds:List D} {os:Z4},Shds cl w xs ds->zdc ds=some os->xs=os.map oV
 | _,_,os,.nil,h=>by cases h;rfl
 | _,_,os,.cons (v:=v) (d:=d) (ds:=ds) r t,h=>by
  unfold zdc at h
  cases h1:zlO d with
  | none=>rw [h1] at h;cases h
  | some o =>
   rw [h1] at h
   cases h2:zdc ds with
   | none=>rw [h2] at h;cases h
   | some os' =>
    rw [h2] at h;cases h;rw [yau,<-zjQ t h2]
    cases d<;>simp [zlO] at h1<;>subst h1<;>cases r<;>rfl
def znc{v:V}{d:D}{k:NK}(h:Shd cl w v d)(hk:zk7 d=some k):∃kb,v=.ref kb/\zla w kb k:=by
 unfold zk7 at hk;split at hk
 ·rename_i i l
  cases ho:zdc l with
  | none=>rw [ho] at hk;cases hk
  | some os =>
   rw [ho] at hk;cases hk
   cases h with
   | tup e o r =>
    cases r with
    | cons r1 t =>
     cases t with
     | cons r2 t =>
      cases t;cases r1
      cases r2 with
      | tup e2 o2 r2=>exact ⟨_,rfl,_,⟨e,o⟩,by rw [<-zjQ r2 ho];exact e2,o2⟩
 ·cases hk
theorem zmv:∀{m:List (NK×V)} {ds:List (D×D)},ShdN cl w m ds->∀k:NK,(m.lookup k=none/\zcX k ds=none)\/∃v d,m.lookup k=some v/\zcX k ds=some d/\Shd cl w v d
 | _,_,.nil,k=>.inl ⟨rfl,rfl⟩
 | _,_,.cons (k:=k') (v:=v) (d:=d) r t,k=>by
  rw [yaz];unfold zcX;rw [zlU]
  by_cases e:k'=k
  ·subst e;rw [if_pos rfl,ybA];exact .inr ⟨v,d,rfl,rfl,r⟩
  ·rw [if_neg (fun z=>e (by cases z;rfl)),ya2.mpr (fun z=>e z.symm)];exact zmv t k
theorem znp:∀{m:List (NK×V)} {ds:List (D×D)},ShdN cl w m ds->m.length=ds.length
 | _,_,.nil=>rfl
 | _,_,.cons r t=>by rw [yaj,yaj,znp t]
end
noncomputable def zpB(cn f:Str)(d:D)(S:Sto):Option D:=match d with
 | .ref n=>(match S[n]? with
  | some ob=>if ob.cls=cn then (match ob.fs.lookup f with | some (false,d)=>some d | _=>none) else none
  | none=>none)
 | _=>none
noncomputable def zpa(cn f:Str)(fe:Fe):Fe:=fun ρ S=>(fe ρ S).bind fun d S1=>match zpB cn f d S1 with | some r=>.ok r S1 | none=>.bad
noncomputable def zk5(cl:Cf)(cn f:Str):Prop:=Cls cl.K (cl cn)/\zcG cl.K (cl cn) f
noncomputable def zh2(cn f:Str)(d:D)(S:Sto):Option (Nat×Ob×List (D×D)):=match d with
 | .ref n=>(match S[n]? with
  | some ob=>if ob.cls=cn then (match ob.fs.lookup f with | some (true,.dic ds)=>some (n,ob,ds) | _=>none) else none
  | none=>none)
 | _=>none
section
variable{cl:Cf}{cn:Str}{X:Cx}{E:St->XK}{e:Expr}{fe:Fe}{f:Str}{pos:Pos}{B:Base}{σ:St}{w:Wd}{ρ:Env}{S:Sto}
def zgA{v:V}{n:Nat}{ob:Ob}(R:Rel cl B σ w ρ S)(hv:Shd cl w v (.ref n))(hn:S[n]?=some ob):∃a dx fs,v=.ref a/\w.mu[n]?=some a/\w.ow a=some (.obj n)/\w.H a=some (.ins (cl ob.cls) dx fs)/\zcC cl w n fs ob.fs:=by
 cases hv with
 | ref e =>
  obtain ⟨h1,dx,fs,h2,h3⟩:=R.wd.atObj hn e;exact ⟨_,dx,fs,rfl,e,h1,h2,h3⟩
def zsd{v:V}{d r:D}(hk:zk5 cl cn f)(R:Rel cl B σ w ρ S)(hv:Shd cl w v d)(hd:zpB cn f d S=some r):∃a C dx fs y,v=.ref a/\w.H a=some (.ins C dx fs)/\Cls cl.K C/\zcG cl.K C f/\fs.lookup f=some y/\Shd cl w y r:=by
 unfold zpB at hd
 cases d with
 | ref n =>
  dsimp only at hd
  cases hS:S[n]? with
  | none=>rw [hS] at hd;cases hd
  | some ob =>
   rw [hS] at hd;dsimp only at hd;split at hd
   ·rename_i hfk;split at hd
    ·rename_i d hl;cases hd;obtain ⟨a,dx,fs,rfl,_,_,hH,hF⟩:=zgA R hv hS;obtain ⟨v,lv,fr⟩:=hF.look hl
     rcases fr with ⟨_,fr⟩ | ⟨z,_⟩
     ·exact ⟨a,_,dx,fs,v,rfl,hH,hfk ▸ hk.1,hfk ▸ hk.2,lv,fr⟩
     ·cases z
    ·cases hd
   ·cases hd
 | _=>cases hd
def zqv(hk:zk5 cl cn f)(kk:X.K=cl.K)(he:PE X e (tE cl E fe))(hb:attributeBase e f X.env (eval e X.env)=eval e X.env):PE X (.Attribute e f pos) (tE cl E (zpa cn f fe)):=by
 refine PE.imp (zf6 he hb) ?_;rintro σ H Q ⟨B,w,ρ,S,rfl,R,q⟩;refine ⟨B,w,ρ,S,rfl,R,?_⟩;unfold zpa at q
 cases hf:fe ρ S with
 | bad=>rwa [hf] at q
 | exc c S1=>rwa [hf] at q
 | ok d S1 =>
  rw [hf] at q;intro v w1 R1 F1 h1;dsimp only [Out.bind] at q
  cases hd:zpB cn f d S1 with
  | none=>rw [hd] at q;exact q.elim
  | some r =>
   rw [hd] at q;obtain ⟨a,C,dx,fs,y,rfl,e1,e2,e3,e4,e5⟩:=zsd hk R1 h1 hd;rw [kk];exact ⟨a,C,dx,fs,y,rfl,e1,e2,e3,e4,q y w1 R1 F1 e5⟩
def zkZ{v:V}{d:D}{n:Nat}{ob:Ob}{ds:List (D×D)}(hk:zk5 cl cn f)(R:Rel cl B σ w ρ S)(hv:Shd cl w v d)(hd:zh2 cn f d S=some (n,ob,ds)) :
  ∃a dx fs c xs m,v=.ref a/\S[n]?=some ob/\w.mu[n]?=some a/\w.ow a=some (.obj n)/\w.H a=some (.ins (cl ob.cls) dx fs)/\zcC cl w n fs ob.fs/\Cls cl.K (cl ob.cls)/\zcG cl.K (cl ob.cls) f/\fs.lookup f=some (.ref c)/\w.ow c=some (.fld n f)/\w.H c=some (.ext (DN cl.P cl.wo c xs))/\zid w xs m/\ShdN cl w m ds:=by
 unfold zh2 at hd
 cases d with
 | ref n' =>
  dsimp only at hd
  cases hS:S[n']? with
  | none=>rw [hS] at hd;cases hd
  | some ob' =>
   rw [hS] at hd;dsimp only at hd;split at hd
   ·rename_i hfk;split at hd
    ·rename_i ds' hl;cases hd;obtain ⟨a,dx,fs,rfl,hmu,how,hH,hF⟩:=zgA R hv hS;obtain ⟨v,lv,fr⟩:=hF.look hl
     rcases fr with ⟨z,_⟩ | ⟨_,c,xs,m,ds2,rfl,c1,c2,c3,c4,e⟩
     ·cases z
     ·cases e;exact ⟨a,dx,fs,c,xs,m,rfl,hS,hmu,how,hH,hF,hfk ▸ hk.1,hfk ▸ hk.2,lv,c1,c2,c3,c4⟩
    ·cases hd
   ·cases hd
 | _=>cases hd
end
end S2
namespace L2
open PySem PySem.Spec PyProof.Rows
section
variable{X:Cx}
end
end L2
namespace S2
open PySem PySem.Spec PyProof.Rows L2
noncomputable def zo9(cn f:Str)(fa fo:Fe):Fe:=fun ρ S=>(fa ρ S).bind fun dk S1=>(fo ρ S1).bind fun d S2=>match zk7 dk,zh2 cn f d S2 with
 | some k,some (_,_,ds)=>.ok (.bl (zcX k ds).isNone) S2
 | _,_=>.bad
noncomputable def znd(ρ:Env)(i:Nat):Option NK:=match ρ[i]? with | some (some (false,dk))=>zk7 dk | _=>none
noncomputable def zkE(cn f:Str)(fo:Fe)(i:Nat):Fe:=fun ρ S=>(fo ρ S).bind fun d S1=>match znd ρ i,zh2 cn f d S1 with
 | some k,some (_,_,ds)=>(match zcX k ds with | some r=>.ok r S1 | none=>.bad)
 | _,_=>.bad
noncomputable def zjo(cn f:Str)(fo:Fe)(i:Nat)(fe:Fe):Fs:=fun ρ S=>match fe ρ S with
 | .bad=>.bad
 | .exc c S1=>.ex c ρ S1
 | .ok r S1=>(match fo ρ S1 with
  | .bad=>.bad
  | .exc c S2=>.ex c ρ S2
  | .ok d S2=>(match znd ρ i,zh2 cn f d S2 with
   | some k,some (n,ob,ds)=>if (zcX k ds).isNone&&decide (ds.length<=1000000)&&zjV ob then .nx ρ (S2.set n (ob.put f true (.dic (ds++[(nkD k,r)])))) else .bad
   | _,_=>.bad))
noncomputable def zjp(cn f:Str)(fo fe:Fe):Fs:=fun ρ S=>match fe ρ S with
 | .bad=>.bad
 | .exc c S1=>.ex c ρ S1
 | .ok r S1=>(match fo ρ S1 with
  | .bad=>.bad
  | .exc c S2=>.ex c ρ S2
  | .ok (.ref n) S2=>(match S2[n]? with
   | some ob=>if decide (ob.cls=cn)&&decide (ob.fs.length<1000) then .nx ρ (S2.set n (ob.put f false r)) else .bad
   | none=>.bad)
  | .ok _ _=>.bad)
noncomputable def zn7(cn f:Str)(i:Nat):Fs:=fun ρ S=>match ρ[i]? with
 | some (some (false,.ref n))=>(match S[n]? with
   | some ob=>if decide (ob.cls=cn)&&decide (ob.fs.length<1000) then .nx ρ (S.set n (ob.put f true (.dic []))) else .bad
   | none=>.bad)
 | _=>.bad
noncomputable def zde(c m:Str)(d:D)(S:Sto):Bool:=match d with
 | .ref n=>(match S[n]? with | some ob=>decide (ob.cls=c)&&(ob.fs.lookup m).isNone | none=>false)
 | _=>false
noncomputable def zgn(c m:Str)(G:List D->Sto->Out D)(fo:Fe)(fs:List Fe):Fe:=fun ρ S=>(fo ρ S).bind fun d S1=>if zde c m d S1 then (zae fs ρ S1).bind fun ds S2=>G (d::ds) S2 else .bad
noncomputable def eMk(c:Str)(dds:List D)(G:List D->Sto->Out D)(fs:List Fe):Fe:=fun ρ S=>(zae fs ρ S).bind fun ds S1=>(G (.ref S1.length::(ds++dds)) (S1++[⟨c,[]⟩])).bind fun r S2=>match r with | .non=>.ok (.ref S1.length) S2 | _=>.bad
structure Same'(cl:Cf)(X:Cx):Prop where
 kk:X.K=cl.K
 pp:X.prog=cl.P
 ww:X.w=cl.wo
section
variable{cl:Cf}{cn:Str}{X:Cx}{E:St->XK}{a o e:Expr}{fa fo fe:Fe}{f:Str}{pos apos:Pos}{own:Bool}
def zrq(sm:Same' cl X)(hk:zk5 cl cn f)(σ:St)(H:Hp)(Q:VK)(q:tE cl E (zo9 cn f fa fo) σ H Q) :
  tOp (fun x y H Q=>∃kb a k xs m,x=.ref kb/\y=.ref a/\zhi H kb k/\H a=some (.ext (DN X.prog X.w a xs))/\zmQ H xs m/\Q (.bl (m.lookup k).isNone) H) (tE cl E fa) (zvy X.K (tE cl E fo) f) σ H Q:=by
 obtain ⟨B,w,ρ,S,rfl,R,q⟩:=q;refine ⟨B,w,ρ,S,rfl,R,?_⟩;unfold zo9 at q
 cases hf:fa ρ S with
 | bad=>rwa [hf] at q
 | exc c S1=>rwa [hf] at q
 | ok dk S1 =>
  rw [hf] at q;intro v w1 R1 F1 h1;refine ⟨B,w1,ρ,S1,rfl,R1,?_⟩;dsimp only [Out.bind] at q
  cases hh:fo ρ S1 with
  | bad=>rwa [hh] at q
  | exc c S2=>rw [hh] at q;exact fun w2 R2 F2=>q w2 R2 (F1.trans F2)
  | ok d S2 =>
   rw [hh] at q;intro y w2 R2 F2 h2;dsimp only at q
   cases hn:zk7 dk with
   | none=>rw [hn] at q;exact q.elim
   | some k =>
    cases hd:zh2 cn f d S2 with
    | none=>rw [hn,hd] at q;exact q.elim
    | some t =>
     obtain ⟨n,ob,ds⟩:=t;rw [hn,hd] at q;dsimp only at q;obtain ⟨a,dx,fs,c,xs,m,rfl,_,_,_,hH,_,c1,c2,lv,_,hc,he,hs⟩:=zkZ hk R2 h2 hd;obtain ⟨kb,rfl,ks⟩:=znc (h1.up F2) hn;rw [sm.kk];refine ⟨a,_,dx,fs,_,rfl,hH,c1,c2,lv,kb,c,k,xs,m,rfl,rfl,ks.at,by rw [sm.pp,sm.ww];exact hc,he.ents,?_⟩
     have:(m.lookup k).isNone=(zcX k ds).isNone:=by
      rcases zmv hs k with ⟨e1,e2⟩ | ⟨_,_,e1,e2,_⟩<;>rw [e1,e2]<;>rfl
     rw [this];exact q _ w2 R2 (F1.trans F2) (.bl _)
def zqr(hu:X.A.units+16<cLine)(sm:Same' cl X)(hk:zk5 cl cn f)(ha:PE X a (tE cl E fa))(ho:PE X o (tE cl E fo))(hb:attributeBase o f X.env (eval o X.env)=eval o X.env)(hm:behindInMarks .NotIn (.Attribute o f apos)=false):PE X (.Compare a [.NotIn] [.Attribute o f apos] pos) (tE cl E (zo9 cn f fa fo)) :=
 PE.imp (zjM (zm8 hu) ha (zf6 ho hb) hm) (zrq sm hk)
def zp5(hu:X.A.units+16<cLine)(sm:Same' cl X)(hk:zk5 cl cn f)(ha:PE X a (tE cl E fa))(ho:PE X o (tE cl E fo))(hb:attributeBase o f X.env (eval o X.env)=eval o X.env)(hm:behindInMarks .NotIn (.Attribute o f apos)=false):PT X (.Compare a [.NotIn] [.Attribute o f apos] pos) (tTr cl E (zo9 cn f fa fo)) :=
 PT.imp (zjx (zm8 hu) ha (zf6 ho hb) hm) fun _ _ _ q=>zrq sm hk _ _ _ (zhs q)
def zj7{B:Base}{σ:St}{w:Wd}{ρ:Env}{S:Sto}{i:Nat}{k:NK}(R:Rel cl B σ w ρ S)(h:znd ρ i=some k):∃kb,σ[i]?=some (some (.ref kb))/\zla w kb k:=by
 unfold znd at h;split at h
 ·rename_i dk hi;obtain ⟨v,e,r⟩:=R.slots i false dk hi;obtain ⟨kb,rfl,ks⟩:=znc r h;exact ⟨kb,e,ks⟩
 ·cases h
def zn6{i:Nat}{x:Str}{p:Pos}(hN:X.N[i]?=some x)(hv:Vis X.env.scope x)(hd:(x == ("__debug__":Str))=false)(hcd:(x == ("__classdict__":Str))=false)(hu:X.A.units+16<cLine)(sm:Same' cl X)(hk:zk5 cl cn f)(ho:PE X o (tE cl E fo))(hb:attributeBase o f X.env (eval o X.env)=eval o X.env)(hs:zfF (.Name x p)):PE X (.Subscript (.Attribute o f apos) (.Name x p) pos) (tE cl E (zkE cn f fo i)):=by
 refine PE.imp (zq2 (zrH hu) (zf6 ho hb) (zca hN hv hd hcd) hs) ?_;rintro σ H Q ⟨B,w,ρ,S,rfl,R,q⟩;refine ⟨B,w,ρ,S,rfl,R,?_⟩;unfold zkE at q
 cases hf:fo ρ S with
 | bad=>rwa [hf] at q
 | exc c S1=>rwa [hf] at q
 | ok d S1 =>
  rw [hf] at q;intro v w1 R1 F1 h1;dsimp only [Out.bind] at q
  cases hn:znd ρ i with
  | none=>rw [hn] at q;exact q.elim
  | some k =>
   cases hd:zh2 cn f d S1 with
   | none=>rw [hn,hd] at q;exact q.elim
   | some t =>
    obtain ⟨n,ob,ds⟩:=t;rw [hn,hd] at q;dsimp only at q;obtain ⟨a,dx,fs,c,xs,m,rfl,_,_,_,hH,_,c1,c2,lv,_,hc,he,hs⟩:=zkZ hk R1 h1 hd;obtain ⟨kb,eσ,ks⟩:=zj7 R1 hn
    cases hl:zcX k ds with
    | none=>rw [hl] at q;exact q.elim
    | some r =>
     rw [hl] at q
     rcases zmv hs k with ⟨_,e2⟩ | ⟨y,r',e1,e2,sh⟩
     ·rw [hl] at e2;cases e2
     ·rw [hl] at e2;cases e2;rw [sm.kk];exact ⟨a,_,dx,fs,_,rfl,hH,c1,c2,lv,_,eσ,c,kb,k,xs,m,y,rfl,rfl,ks.at,by rw [sm.pp,sm.ww];exact hc,he.ents,e1,q _ w1 R1 F1 sh⟩
def znN{i:Nat}{x:Str}{p p3:Pos}(hN:X.N[i]?=some x)(hv:Vis X.env.scope x)(hd:(x == ("__debug__":Str))=false)(hcd:(x == ("__classdict__":Str))=false)(hu:X.A.units+16<cLine)(sm:Same' cl X)(hk:zk5 cl cn f)(ho:PE X o (tE cl E fo))(hb:attributeBase o f X.env (eval o X.env)=eval o X.env)(he:PE X e (tE cl E fe))
  (sw1:swapsWithSole [.Subscript (.Attribute o f apos) (.Name x p) p3] e pos.line X.env=pure false) (sw2:swappedStores [.Subscript (.Attribute o f apos) (.Name x p) p3] e X.env=pure none)
  (ha:∀v,assign (.Subscript (.Attribute o f apos) (.Name x p) p3) X.env v=(do
   let ov ← holding [v] (eval (.Attribute o f apos) X.env)
   let iv ← holding [v,ov] (eval (.Name x p) X.env)
   standAt p3
   holding [v,ov,iv] (setItem ov iv v)
   release [v,ov,iv] [])):PS X (.Assign [.Subscript (.Attribute o f apos) (.Name x p) p3] e pos) (tS cl E own (zjo cn f fo i fe)):=by
 refine PS.imp (zjB he (zm5 (zf6 ho hb) (zca hN hv hd hcd) (zn0 hu) ha) sw1 sw2 rfl) ?_;rintro De σ H ⟨B,w,ρ,S,rfl,R,q⟩;refine ⟨B,w,ρ,S,rfl,R,?_⟩;unfold zjo at q
 cases hf:fe ρ S with
 | bad=>rwa [hf] at q
 | exc c S1=>rw [hf] at q;exact fun w' R' F'=>q σ w' R' F'
 | ok r S1 =>
  rw [hf] at q;intro v w1 R1 F1 h1;dsimp only at q;refine ⟨B,w1,ρ,S1,rfl,R1,?_⟩
  cases hfo:fo ρ S1 with
  | bad=>rwa [hfo] at q
  | exc c S2=>rw [hfo] at q;exact fun w' R' F'=>q σ w' R' (F1.trans F')
  | ok d S2 =>
   rw [hfo] at q;intro y w2 R2 F2 h2;dsimp only at q
   cases hn:znd ρ i with
   | none=>rw [hn] at q;exact q.elim
   | some k =>
    cases hd:zh2 cn f d S2 with
    | none=>rw [hn,hd] at q;exact q.elim
    | some t =>
     obtain ⟨n,ob,ds⟩:=t;rw [hn,hd] at q;dsimp only at q;split at q
     ·rename_i hc0;rw [yab,yab] at hc0;obtain ⟨⟨z1,z2⟩,z3⟩:=hc0;obtain ⟨a,dx,fs,c,xs,m,rfl,hS,hmu,how,hH,hF,c1,c2,lv,oc,hc,he,hs⟩:=zkZ hk R2 h2 hd;obtain ⟨kb,eσ,ks⟩:=zj7 R2 hn
      have hno:m.lookup k=none:=by
       rcases zmv hs k with ⟨e1,_⟩ | ⟨_,_,_,e2,_⟩
       ·exact e1
       ·rw [e2] at z1;cases z1
      rw [sm.kk];refine ⟨a,_,dx,fs,_,rfl,hH,c1,c2,lv,_,eσ,c,kb,k,xs,m,rfl,rfl,ks.at,by rw [sm.pp,sm.ww];exact hc,he.ents,hno,by rw [znp hs];exact yah z2,fun u ru=>?_⟩;obtain ⟨R3,F3⟩:=R2.setd hS hmu how hH hF lv oc hc he hs ks ru (h1.up F2) z3;rw [sm.pp,sm.ww];exact q σ _ R3 (F1.trans (F2.trans F3))
     ·exact q.elim
def znP(sm:Same' cl X)(hk:zk5 cl cn f)(ho:PE X o (tE cl E fo))(he:PE X e (tE cl E fe))(hs:swapsWith e (some (.Attribute o f apos)) pos.line X.env=pure false):PS X (.Assign [.Attribute o f apos] e pos) (tS cl E own (zjp cn f fo fe)):=by
 refine PS.imp (zm4 ho he hs) ?_;rintro De σ H ⟨B,w,ρ,S,rfl,R,q⟩;refine ⟨B,w,ρ,S,rfl,R,?_⟩;unfold zjp at q
 cases hf:fe ρ S with
 | bad=>rwa [hf] at q
 | exc c S1=>rw [hf] at q;exact fun w' R' F'=>q σ w' R' F'
 | ok r S1 =>
  rw [hf] at q;intro v w1 R1 F1 h1;dsimp only at q;refine ⟨B,w1,ρ,S1,rfl,R1,?_⟩
  cases hfo:fo ρ S1 with
  | bad=>rwa [hfo] at q
  | exc c S2=>rw [hfo] at q;exact fun w' R' F'=>q σ w' R' (F1.trans F')
  | ok d S2 =>
   rw [hfo] at q;intro y w2 R2 F2 h2
   cases d with
   | ref n =>
    dsimp only at q
    cases hS:S2[n]? with
    | none=>rw [hS] at q;exact q.elim
    | some ob =>
     rw [hS] at q;dsimp only at q;split at q
     ·rename_i hc0;rw [yab] at hc0;obtain ⟨a,dx,fs,rfl,hmu,how,hH,hF⟩:=zgA R2 h2 hS;rw [sm.kk];refine ⟨a,_,dx,fs,rfl,hH,yah hc0.1 ▸ hk.1,yah hc0.1 ▸ hk.2,by rw [hF.len];exact yah hc0.2,?_⟩;obtain ⟨R3,F3⟩:=R2.setf (f:=f) hS hmu how hH hF (h1.up F2);exact q σ _ R3 (F1.trans (F2.trans F3))
     ·exact q.elim
   | _=>exact q.elim
def znQ{i:Nat}{x:Str}{p p2:Pos}(hN:X.N[i]?=some x)(hv:Vis X.env.scope x)(hd:(x == ("__debug__":Str))=false)(hcd:(x == ("__classdict__":Str))=false)(sm:Same' cl X)(hk:zk5 cl cn f)(hs:swapsWith (.Dict [] [] p) (some (.Attribute (.Name x p2) f apos)) pos.line X.env=pure false):PS X (.Assign [.Attribute (.Name x p2) f apos] (.Dict [] [] p) pos) (tS cl E own (zn7 cn f i)):=by
 refine PS.imp (zm4 (zca hN hv hd hcd) zoq hs) ?_;rintro De σ H ⟨B,w,ρ,S,rfl,R,q⟩;intro pd hpd;unfold zn7 at q;split at q
 ·rename_i n hi;obtain ⟨v,ev,rv⟩:=R.slots i false _ hi
  cases hS:S[n]? with
  | none=>rw [hS] at q;exact q.elim
  | some ob =>
   rw [hS] at q;dsimp only at q;split at q
   ·rename_i hc0;rw [yab] at hc0;obtain ⟨a,dx,fs,rfl,hmu,how,hH,hF⟩:=zgA R rv hS;rw [sm.kk];refine ⟨_,ev,a,_,dx,fs,rfl,?_,yah hc0.1 ▸ hk.1,yah hc0.1 ▸ hk.2,by rw [hF.len];exact yah hc0.2,?_⟩
    ·rw [zag (zam hH hpd)];exact hH
    ·obtain ⟨R3,F3⟩:=R.newf (f:=f) hS hmu how hH hF hpd;rw [sm.pp,sm.ww];exact q σ _ R3 F3
   ·exact q.elim
 ·exact q.elim
end
noncomputable def zfO(C:Addr)(m:Str)(sp:Sp)(dvs:List V)(E:St->XK)(ta:TE)(t:TA):TE:=fun σ H Q=>ta σ H fun x H1=>∃a dx fs,x=.ref a/\H1 a=some (.ins C dx fs)/\fs.lookup m=none ∧
 t σ H1 fun vs H2=>sp (x::(vs++dvs)) H2 Q (E σ)
noncomputable def zmS(C:Addr)(sp:Sp)(dvs:List V)(E:St->XK)(t:TA):TE:=fun σ H Q=>t σ H fun vs H1=>∀x dx,H1 x=none->H1 dx=none->dx≠x →
 sp (.ref x::(vs++dvs)) (upd (upd H1 dx (.own x)) x (.ins C dx [])) (fun v H2=>v=.non/\Q (.ref x) H2) (E σ)
section
variable{X:Cx}{CX:CXT}{k:Nat}{f C:Addr}{fd:FuncData}{ps:List Str}{sp:Sp}{dvs:List V}{ds:List Value}{E:St->XK}{x m:Str}{p pos apos:Pos}{e o:Expr}{es:List Expr}{ta:TE}{t:TA}
def zlD{pl:Sem Bool}(he:PE X o ta)(c:Cls X.K C)(hm:Meth X.K C m f)(F:FnOk X.prog X.w X.K X.mg X.base CX k f fd ps sp)(hr:Room k X.A)(hb:zcD X.K fd ps ds)(hd:Vals dvs ds)(hx:zcu CX X E)(ha:PA X (e::es) t)
  (hst:starEach (e::es) X.env=(false,eval e X.env)::starEach es X.env) (hpl:(backTo pos (starEach es X.env)).any (·.1)=false)
  (ht:eval (.Call (.Attribute o m apos) (e::es) [] pos) X.env=(do
   let ov ← eval o X.env
   standAt apos.atName
   let (f,first) ← holding [ov] (getMethod ov m pl)
   callWith pos f first (backTo pos (starEach (e::es) X.env)) (backToKw pos (keywordEach [] X.env)))) :
  PE X (.Call (.Attribute o m apos) (e::es) [] pos) (zfO C m sp dvs E ta t):=by
 intro pins s σ H Q I h;refine PySem.W.methodCall_KW (pl:=pl) (thn (he pins s σ H _ I h) fun u s1 ⟨x,H1,I1,rx,a,dx,fs,ex,ea,l,q⟩=>?_) ht;subst ex;obtain rfl:u=Value.ref a:=rx;refine zeN I1 ea c hm l ?_;refine ycQ (first:=[.ref a]) (h₀:=X.base) I.ok.mod.kin hm.kp (thn (ha pos pins s1 σ H1 _ I1 q) fun us s2 ⟨vs,H2,I2,r,q2⟩=>⟨I2.kIn,?_⟩) hst hpl;exact zfa (us:=.ref a::us) (vs:=.ref a::vs) F hr hb hd hx I2 (.cons rfl r) q2
def zjL{pl:Sem Bool}(he:PE X o ta)(c:Cls X.K C)(hm:Meth X.K C m f)(F:FnOk X.prog X.w X.K X.mg X.base CX k f fd ps sp)(hr:Room k X.A)(hb:zcD X.K fd ps ds)(hd:Vals dvs ds)(hx:zcu CX X E)
  (ht:eval (.Call (.Attribute o m apos) [] [] pos) X.env=(do
   let ov ← eval o X.env
   standAt apos.atName
   let (f,first) ← holding [ov] (getMethod ov m pl)
   callWith pos f first (backTo pos (starEach [] X.env)) (backToKw pos (keywordEach [] X.env)))) :
  PE X (.Call (.Attribute o m apos) [] [] pos) (zfO C m sp dvs E ta zsq):=by
 intro pins s σ H Q I h;refine PySem.W.methodCall_KW (pl:=pl) (thn (he pins s σ H _ I h) fun u s1 ⟨x,H1,I1,rx,a,dx,fs,ex,ea,l,q⟩=>?_) ht;subst ex;obtain rfl:u=Value.ref a:=rx;refine zeN I1 ea c hm l ?_;exact PySem.W.callWith_K0 (first:=[.ref a]) I1.kIn hm.kp (zfa (us:=[.ref a]) (vs:=[.ref a]) F hr hb hd hx I1 (.cons rfl .nil) q)
def zjs{pins:Z3}{σ:St}{H:Hp}{s:Shared}{Q:VK}{us:List Value}{vs:List V}(M:Mk X.K C f)(F:FnOk X.prog X.w X.K X.mg X.base CX k f fd ps sp)(hr:Room (k+1) X.A)(hb:zcD X.K fd ps ds)(hd:Vals dvs ds)
  (hx:zcu CX X E) (I:Inv X pins σ H s) (r:Vals vs us)
  (h:∀x dx,H x=none->H dx=none->dx≠x->sp (.ref x::(vs++dvs)) (upd (upd H dx (.own x)) x (.ins C dx [])) (fun v H2=>v=.non/\Q (.ref x) H2) (E σ)) :
  wpAny (model X.prog X.w) X.A (call (.ref C) us) (EP X pins σ Q) X.xe s:=by
 have hq:=h (s.heap.objs.size+1) s.heap.objs.size (I.hok.fresh (yco _)) (I.hok.fresh (yal _)) (yar (yb1 _));have I2:=Inv.made (C:=C) I;have r2:Vals (V.ref (s.heap.objs.size+1)::(vs++dvs)) (Value.ref (s.heap.objs.size+1)::(us++ds)):=.cons rfl (r.append hd)
 have hl:(Value.ref (s.heap.objs.size+1)::us++ds).length=ps.length:=by
  have e:=r2.length;rw [F.len _ _ _ _ hq] at e;exact e.symm
 refine wpAny_call (zl3 (f:=f) I.kIn M.makes M.init (ycm.mp M.fn) (yct (F.run _ X.stack _ _ ⟨Value.ref (s.heap.objs.size+1)::us,[]⟩ (Value.ref (s.heap.objs.size+1)::(us++ds)) _ _ (E σ) (hr.make C us [])
  (I2.env0.make C us []) (hb _ (Value.ref (s.heap.objs.size+1)::us) I2.kIn hl) r2 hq) fun r s' hq'=>?_))
 cases r with
 | error e=>exact hx pins σ _ _ e s' I2 hq'
 | ok fl =>
  cases fl with
  | ret u =>
   obtain ⟨v,H',I3,rv,ev,q3⟩:=I2.after hq';subst ev;exact ⟨rv,⟨V.ref (s.heap.objs.size+1),H',I3,rfl,q3⟩⟩
  | next=>exact False.elim hq'
  | brk=>exact False.elim hq'
  | cont=>exact False.elim hq'
def zhF(M:Mk X.K C f)(F:FnOk X.prog X.w X.K X.mg X.base CX k f fd ps sp)(hr:Room (k+1) X.A)(hg:Gl X x)(hm:X.mg x=some (.ref C))(hb:zcD X.K fd ps ds)(hd:Vals dvs ds)(hx:zcu CX X E)
  (ha:PA X (e::es) t) (hdb:(x == ("__debug__":Str))=false) (he:starEach (e::es) X.env=(false,eval e X.env)::starEach es X.env) (hpl:(backTo pos (starEach es X.env)).any (·.1)=false) :
  PE X (.Call (.Name x p) (e::es) [] pos) (zmS C sp dvs E t):=by
 intro pins s σ H Q I h;refine ybN (zeg I hg hm ?_ hdb);refine ycQ (h₀:=X.base) I.ok.mod.kin M.kp (thn (ha pos pins s σ H _ I h) fun us s1 ⟨vs,H1,I1,r,q⟩=>⟨I1.kIn,?_⟩) he hpl;exact zjs M F hr hb hd hx I1 r q
end
section
variable{cl:Cf}{E:St->XK}{fs:List Fe}{fo:Fe}{G:List D->Sto->Out D}{σ:St}{H:Hp}{Q:VK}{n:Nat}{c m:Str}{ρ:Env}
theorem zdj:∀{fs:List Fe} {S S1:Sto} {ds:List D},zae fs ρ S=.ok ds S1->ds.length=fs.length
 | [],S,S1,ds,h=>by cases h;rfl
 | f::fs,S,S1,ds,h=>by
  unfold zae at h
  cases h1:f ρ S with
  | bad=>rw [h1] at h;cases h
  | exc c S2=>rw [h1] at h;cases h
  | ok d S2 =>
   rw [h1] at h;dsimp only [Out.bind] at h
   cases h2:zae fs ρ S2 with
   | bad=>rw [h2] at h;cases h
   | exc c S3=>rw [h2] at h;cases h
   | ok es S3=>rw [h2] at h;cases h;rw [yaj,yaj,zdj h2]
def zjY{B:Base}{w:Wd}{S:Sto}{v:V}{d:D}(R:Rel cl B σ w ρ S)(hv:Shd cl w v d)(h:zde c m d S=true):∃a dx fs,v=.ref a/\w.H a=some (.ins (cl c) dx fs)/\fs.lookup m=none:=by
 unfold zde at h
 cases d with
 | ref n =>
  dsimp only at h
  cases hS:S[n]? with
  | none=>rw [hS] at h;cases h
  | some ob =>
   rw [hS] at h;dsimp only at h;rw [yab] at h;obtain ⟨a,dx,fs,rfl,_,_,hH,hF⟩:=zgA R hv hS;have e:=yah h.1;subst e;exact ⟨a,dx,fs,rfl,hH,hF.miss (by simpa using h.2)⟩
 | _=>cases h
def zrt(q:tE cl E (zgn c m G fo fs) σ H Q)(hn:fs.length+1=n):zfO (cl c) m (zik cl n false G) [] E (tE cl E fo) (tAs cl E fs) σ H Q:=by
 obtain ⟨B,w,ρ,S,rfl,R,q⟩:=q;refine ⟨B,w,ρ,S,rfl,R,?_⟩;unfold zgn at q
 cases hfo:fo ρ S with
 | bad=>rwa [hfo] at q
 | exc c S1=>rwa [hfo] at q
 | ok d S0 =>
 rw [hfo] at q;intro v w0 R0 F0 h0;dsimp only [Out.bind] at q
 cases hok:zde c m d S0 with
 | false=>rw [hok] at q;exact q.elim
 | true =>
 rw [hok,if_pos rfl] at q;obtain ⟨a,dx,fs',rfl,hH,hm⟩:=zjY R0 h0 hok;refine ⟨a,dx,fs',rfl,hH,hm,B,w0,ρ,S0,rfl,R0,?_⟩
 cases hf:zae fs ρ S0 with
 | bad=>rwa [hf] at q
 | exc c S1=>rw [hf] at q;exact fun w1 R1 F1=>q w1 R1 (F0.trans F1)
 | ok ds S1 =>
  rw [hf] at q;intro vs w1 R1 F1 h1;dsimp only at q;refine ⟨?_,w1.base,w1.inn,d::ds,S1,rfl,R1.wd.enter,?_,?_⟩
  ·rw [yaK,yaj,h1.length,zdj hf];exact hn
  ·rw [yaK];exact .cons ((h0.up F1).up (zbL w1)) (h1.up (zbL w1))
  cases hg:G (d::ds) S1 with
  | bad=>rwa [hg] at q
  | exc c S2 =>
   rw [hg] at q;intro w2 W2 F2;obtain ⟨R3,F3⟩:=R1.leave W2 F2;exact q (w1.back w2) R3 (F0.trans (F1.trans F3))
  | ok r S2 =>
   rw [hg] at q;intro v w2 W2 F2 r2;obtain ⟨R3,F3⟩:=R1.leave W2 F2;exact q v (w1.back w2) R3 (F0.trans (F1.trans F3)) (Shd.up (zcy W2) r2)
def zrs(q:tN cl E (zgn c m G fo fs) σ H Q)(hn:fs.length+1=n):zfO (cl c) m (zik cl n true G) [] E (tE cl E fo) (tAs cl E fs) σ H Q:=by
 obtain ⟨B,w,ρ,S,rfl,R,q⟩:=q;refine ⟨B,w,ρ,S,rfl,R,?_⟩;unfold zgn at q
 cases hfo:fo ρ S with
 | bad=>rwa [hfo] at q
 | exc c S1=>rwa [hfo] at q
 | ok d S0 =>
 rw [hfo] at q;intro v w0 R0 F0 h0;dsimp only [Out.bind] at q
 cases hok:zde c m d S0 with
 | false=>rw [hok] at q;exact q.elim
 | true =>
 rw [hok,if_pos rfl] at q;obtain ⟨a,dx,fs',rfl,hH,hm⟩:=zjY R0 h0 hok;refine ⟨a,dx,fs',rfl,hH,hm,B,w0,ρ,S0,rfl,R0,?_⟩
 cases hf:zae fs ρ S0 with
 | bad=>rwa [hf] at q
 | exc c S1=>rw [hf] at q;exact fun w1 R1 F1=>q w1 R1 (F0.trans F1)
 | ok ds S1 =>
  rw [hf] at q;intro vs w1 R1 F1 h1;dsimp only at q;refine ⟨?_,w1.base,w1.inn,d::ds,S1,rfl,R1.wd.enter,?_,?_⟩
  ·rw [yaK,yaj,h1.length,zdj hf];exact hn
  ·rw [yaK];exact .cons ((h0.up F1).up (zbL w1)) (h1.up (zbL w1))
  cases hg:G (d::ds) S1 with
  | bad=>rwa [hg] at q
  | exc c S2 =>
   rw [hg] at q;intro w2 W2 F2;obtain ⟨R3,F3⟩:=R1.leave W2 F2;exact q (w1.back w2) R3 (F0.trans (F1.trans F3))
  | ok r S2 =>
   rw [hg] at q;intro v w2 W2 F2 r2;obtain ⟨R3,F3⟩:=R1.leave W2 F2;obtain ⟨a,o,i,rfl,k1,k2,t⟩:=r2;have hfr:w1.base.Fr a=none:=(W2.own a _ k1).elim (fun z=>by cases z) fun z=>z
   have k3:(w1.back w2).ow a=some .far:=by
    show (if (w1.base.Fr a).isSome=true then w1.ow a else Root.out (w2.ow a))=_;rw [hfr,k1];rfl
   have hb:B.Fr a=none:=by
    cases z:B.Fr a with
    | none=>rfl
    | some u=>rw [zc0 R1.wd z] at hfr;cases hfr
   have hd:=zg5 (w:=w1.back w2) (a:=a) (by rw [k3];exact yaG _);have:=q a o ((w1.back w2).del a) (R3.del k3 hb) (F0.trans (F1.trans (F3.trans hd))) (if_pos rfl) ((t.up (zcy W2)).up hd);rwa [ziW (w:=w1.back w2) k2] at this
def zvJ{dds:List D}{dvs:List V}(hdv:∀w,Shds cl w dvs dds)(q:tE cl E (eMk c dds G fs) σ H Q)(hn:fs.length+dds.length+1=n):zmS (cl c) (zik cl n false G) dvs E (tAs cl E fs) σ H Q:=by
 obtain ⟨B,w,ρ,S,rfl,R,q⟩:=q;refine ⟨B,w,ρ,S,rfl,R,?_⟩;unfold eMk at q
 cases hf:zae fs ρ S with
 | bad=>rwa [hf] at q
 | exc c S1=>rwa [hf] at q
 | ok ds S1 =>
  rw [hf] at q;intro vs w1 R1 F1 h1;dsimp only [Out.bind] at q;intro x dx hx hdx ne;obtain ⟨R2,F2⟩:=R1.made (c:=c) hx hdx ne
  have hmu:(w1.addO x dx (cl c) S1.length).mu[S1.length]?=some x:=by
   show (w1.mu++[x])[S1.length]?=some x;rw [yax (by rw [R1.wd.len];exact yal _),R1.wd.len,ycR];rfl
  refine ⟨?_,(w1.addO x dx (cl c) S1.length).base,(w1.addO x dx (cl c) S1.length).inn,.ref S1.length::(ds++dds),S1++[⟨c,[]⟩],rfl,R2.wd.enter,?_,?_⟩
  ·rw [yaj,yaw,h1.length,zdj hf,(hdv w1).length];exact hn
  ·exact .cons (.ref hmu) (((h1.up F2).up (zbL _)).append (hdv _))
  cases hg:G (.ref S1.length::(ds++dds)) (S1++[⟨c,[]⟩]) with
  | bad=>rwa [hg] at q
  | exc c S2 =>
   rw [hg] at q;intro w2 W2 F3;obtain ⟨R3,F4⟩:=R2.leave W2 F3;exact q ((w1.addO x dx _ S1.length).back w2) R3 (F1.trans (F2.trans F4))
  | ok r S2 =>
   rw [hg] at q;intro v w2 W2 F3 r2
   cases r with
   | non =>
    obtain ⟨R3,F4⟩:=R2.leave W2 F3;refine ⟨by cases r2;rfl,q (.ref x) ((w1.addO x dx _ S1.length).back w2) R3 (F1.trans (F2.trans F4)) (.ref (F4.mu _ _ hmu))⟩
   | _=>exact q.elim
end
end S2
namespace L2
open PySem PySem.Spec PyProof.Rows
section
variable{X:Cx}
noncomputable def zut(ns:List Int):Nat:=argBest (fun i j=>decide (ns.getD i 0<ns.getD j 0)) (ns.length-1)
noncomputable def zxH(ns:List Int):Int:=ns.getD (zut ns) 0
end
end L2
namespace S2
open PySem PySem.Spec PyProof.Rows L2
noncomputable def zsJ:Operator->Option (Int->Int->Int) | .Add=>some (·+·) | .Sub=>some (· - ·) | _=>none
noncomputable def zqC(i:Nat)(g:Int->Int->Int)(fe:Fe):Fs:=fun ρ S=>match ρ[i]? with
 | some (some (false,.int a))=>(match fe ρ S with
  | .ok (.int b) S1=>.nx (ρ.set i (some (false,.int (g a b)))) S1
  | .ok _ _=>.bad
  | .exc c S1=>.ex c ρ S1
  | .bad=>.bad)
 | _=>.bad
section
variable{cl:Cf}{X:Cx}{E:St->XK}{e:Expr}{fe f:Fe}{pos:Pos}{own:Bool}
def zqb{i:Nat}{x:Str}{op:Operator}{g:Int->Int->Int}{p:Pos}(hop:zsJ op=some g)(hN:X.N.Nodup)(hi:X.N[i]?=some x)(hx:Loc X.env.scope x)(he:PE X e (tE cl E fe))(hf:X.fn x=true\/X.env.scope.names.lookup x=some .local):PS X (.AugAssign (.Name x p) op e pos) (tS cl E own (zqC i g fe)):=by
 have main:∀ti:TIp,PIp X op ti->(∀a b H Q,Q (.int (g a b)) H->ti (.int a) (.int b) H Q)->PS X (.AugAssign (.Name x p) op e pos) (tS cl E own (zqC i g fe)):=by
  intro ti ho hti;refine PS.imp (zqS hN hi hx he ho hf) ?_;rintro De σ H ⟨B,w,ρ,S,rfl,R,q⟩;unfold zqC at q;split at q
  ·rename_i a ha;obtain ⟨v,ev,rv⟩:=R.slots i false _ ha;have rv':Shd cl w v (.int a):=rv;cases rv';refine ⟨_,ev,B,w,ρ,S,rfl,R,?_⟩
   cases hfe:fe ρ S with
   | bad=>rwa [hfe] at q
   | exc c S1=>rw [hfe] at q;exact fun w' R' F'=>q σ w' R' F'
   | ok d S1 =>
    rw [hfe] at q;intro y w1 R1 F1 h1
    cases d with
    | int b =>
     cases h1;exact hti a b _ _ (q _ w1 (R1.put (.int _)) F1)
    | _=>exact q.elim
  ·exact q.elim
 cases op<;>simp [zsJ] at hop<;>subst hop
 ·exact main zvD zrN fun a b H Q q=>⟨a,b,rfl,rfl,q⟩
 ·exact main zvC zrM fun a b H Q q=>⟨a,b,rfl,rfl,q⟩
def zlP:OpR X (compareOp .Is) (fun x y H Q=>∃i j,x=.bl i/\y=.bl j/\Q (.bl (decide (i=j))) H):=by
 intro pins s σ H x y v u Q I rx ry h;obtain ⟨i,j,rfl,rfl,q⟩:=h;cases rx;cases ry;refine wpAny_is_plain (by rfl) ?_;refine ⟨.bl (decide (i=j)),H,I,?_,q⟩;show _=Value.bool _;congr 1
 cases i<;>cases j<;>rfl
noncomputable def zsB:D->D->Option D | .bl a,.bl b=>some (.bl (decide (a=b))) | _,_=>none
def zrl:OpD X cl (compareOp .Is) zsB:=by
 intro pins s σ H x y v u Q I rx ry h;obtain ⟨w,d,e,r,rfl,hx,hy,hg,q⟩:=h;unfold zsB at hg;split at hg
 ·cases hg;obtain rfl:=hx.blI;obtain rfl:=hy.blI;exact zlP pins s σ w.H _ _ v u Q I rx ry ⟨_,_,rfl,rfl,q _ w (Grow.refl _) (.bl _)⟩
 ·cases hg
noncomputable def ztP:List D->Option D
 | [.lst l]=>(zbS l).bind fun ns=>if ns.isEmpty then none else some (.int (zxH ns))
 | ds=>zxI ds
end
end S2
namespace S2
open PySem PySem.Spec PyProof.Rows L2
section
variable{cl:Cf}{w:Wd}
end
noncomputable def zun:Fe:=fun _ S=>.ok (zwL []) S
section
variable{X:Cx}{cl:Cf}{E:St->XK}{own:Bool}{a b e:Expr}{f g fe fk:Fe}{pos pos':Pos}{i:Nat}{x:Str}{ap cp:Pos}
end
end S2
namespace ST
open PySem PySem.Spec PyProof.Rows
noncomputable def zfw:List Int:=[0,1,2,3,4,5,6,7]
noncomputable def zad(ks:List Int):List Int:=zfw.filter fun x=>decide (x∈ks)
def zgb{k:Int}:k∈zfw↔0<=k/\k<8:=by
 unfold zfw;simp only [yap,yaJ,ybF];omega
def zaQ{ks:List Int}{k:Int}:k∈zad ks↔(0<=k/\k<8)/\k∈ks:=by
 unfold zad;rw [ybc,zgb,decide_eq_true_iff]
def za6{ks:List Int}:(zad ks).Pairwise (· < ·):=List.Pairwise.filter _ (by unfold zfw;decide)
def zaA{ks:List Int}:(zad ks).length<=8:=by
 have:=ybn (fun x=>decide (x∈ks)) zfw;exact this
def zfR{l:List Int}(h:l.Pairwise (· < ·)):l.Nodup:=List.Pairwise.imp (fun {a b} h=>by omega) h
def zjb{a b:List Int}(ha:a.Pairwise (· < ·))(hb:b.Pairwise (· < ·))(h:∀x,x∈a↔x∈b):a=b:=by
 have p:a.Perm b:=(List.perm_ext_iff_of_nodup (zfR ha) (zfR hb)).mpr h;exact PySem.W.lks_uniq p (List.Pairwise.imp (fun {a b} h=>by omega) ha) (List.Pairwise.imp (fun {a b} h=>by omega) hb)
def zmF{ks:List Int}{k:Int}(h:k∈ks):zad (ks++[k])=zad ks:=by
 refine zjb za6 za6 fun x=>?_
 rw [zaQ,zaQ,ybj,yaU];constructor
 ·rintro ⟨a,b | rfl⟩
  ·exact ⟨a,b⟩
  ·exact ⟨a,h⟩
 ·rintro ⟨a,b⟩;exact ⟨a,.inl b⟩
def zhp{a b:Int}(ha:0<=a)(hb:0<=b):a.toNat<b.toNat↔a<b:=by omega
def zcm{l:List Int}(h:l.Pairwise (· < ·))(h0:∀x∈l,0<=x):(l.map Int.toNat).Pairwise (· < ·):=by
 rw [ycZ];exact yca (fun {a b} ha hb hab=>(zhp (h0 a ha) (h0 b hb)).mpr hab) h
def zcs{ks:List Int}:∀x∈zad ks,0<=x:=fun x hx=>(zaQ.mp hx).1.1
def zgs{ks:List Int}{k:Int}{c:Nat}(hk:0<=k/\k<8)(hn:k ∉ ks)(hc:Cut ((zad ks).map Int.toNat) k.toNat c):zad (ks++[k])=(zad ks).take c++k::(zad ks).drop c:=by
 have hnc:k ∉ zad ks:=fun z=>hn (zaQ.mp z).2
 have hs:((zad ks).take c++k::(zad ks).drop c).Pairwise (· < ·):=by
  have h1:=znS (zcm za6 zcs) hc (j:=k.toNat) (fun z=>by
   obtain ⟨x,hx,e⟩:=yaq.mp z;have:=zcs x hx
   exact hnc (by rw [show k=x by omega];exact hx))
  rw [<-List.map_take,<-yc2,<-yau,<-ybD,ycZ] at h1;refine yca (fun {a b} ha hb hab=>?_) h1
  have pos:∀x∈(zad ks).take c++k::(zad ks).drop c,0<=x:=fun x hx=>by
   rcases ybj.mp hx with h | h
   ·exact zcs x (List.mem_of_mem_take h)
   ·rcases yap.mp h with rfl | h
    ·exact hk.1
    ·exact zcs x (List.mem_of_mem_drop h)
  exact (zhp (pos a ha) (pos b hb)).mp hab
 refine zjb za6 hs fun x=>?_
 rw [zoJ,zaQ,zaQ,ybj,yaU];constructor
 ·rintro ⟨a,b | rfl⟩
  ·exact .inr ⟨a,b⟩
  ·exact .inl rfl
 ·rintro (rfl | ⟨a,b⟩)
  ·exact ⟨hk,.inr rfl⟩
  ·exact ⟨a,.inl b⟩
def zeM(prog:Program)(w:World){k:Int}(h:0<=k/\k<8):(intKind prog w).hash k=k:=by
 have:k=0\/k=1\/k=2\/k=3\/k=4\/k=5\/k=6\/k=7:=by omega
 rcases this with rfl | rfl | rfl | rfl | rfl | rfl | rfl | rfl<;>rfl
def ziL{k:Int}(h:0<=k/\k<8):SetTable.bits k=k.toNat:=by
 unfold SetTable.bits;rw [Int.emod_eq_of_lt h.1 (by omega)]
structure Els(l:List Int)(es:List (Int×Value)):Prop where
 len:es.length=l.length
 at':∀(i:Nat) (k:Int),l[i]?=some k->∃tk,es[i]?=some (k,Value.int k tk)
def Els.mem{l:List Int}{es:List (Int×Value)}(h:Els l es){e:Int×Value}(he:e∈es):∃k tk,k∈l/\e=(k,Value.int k tk):=by
 obtain ⟨i,hi,rfl⟩:=ycy.mp he
 have hl:i<l.length:=by rw [<-h.len];exact hi
 obtain ⟨tk,e⟩:=h.at' i _ (yac hl);rw [yac hi] at e;exact ⟨_,tk,ya7 hl,Option.some.inj e⟩
def Els.has{l:List Int}{es:List (Int×Value)}(h:Els l es){k:Int}(hk:k∈l):∃tk,(k,Value.int k tk)∈es:=by
 obtain ⟨i,hi,rfl⟩:=ycy.mp hk;obtain ⟨tk,e⟩:=h.at' i _ (yac hi);exact ⟨tk,yaZ e⟩
def Els.ins{l:List Int}{es:List (Int×Value)}(h:Els l es)(c:Nat)(hc:c<=l.length)(k:Int)(tk:Tok):Els (l.take c++k::l.drop c) (es.take c++(k,Value.int k tk)::es.drop c) where
 len:=by simp only [yaw,yaj,yaI,yb2,h.len]
 at':=fun i x e=>by
  have hl:=h.len
  rcases Nat.lt_trichotomy i c with a | a | a
  ·rw [yaL (by rw [yaI];omega),ycN,if_pos a] at e;obtain ⟨t,z⟩:=h.at' i x e;exact ⟨t,by rw [yaL (by rw [yaI];omega),ycN,if_pos a];exact z⟩
  ·subst a;rw [yax (by rw [yaI];omega),yaI,ybS hc,ycR] at e;cases e;exact ⟨tk,by rw [yax (by rw [yaI];omega),yaI,ybS (by omega),ycR];rfl⟩
  ·rw [yax (by rw [yaI];omega),yaI,ybS hc,show i-c=(i-c-1)+1 by omega,ych,ybo] at e;obtain ⟨t,z⟩:=h.at' _ x e;exact ⟨t,by rw [yax (by rw [yaI];omega),yaI,ybS (by omega),show i-c=(i-c-1)+1 by omega,ych,ybo];exact z⟩
def Els.hashes{l:List Int}{es:List (Int×Value)}(h:Els l es):es.map (·.1)=l:=by
 apply ybu;intro i;rw [yas]
 cases e:l[i]? with
 | none =>
  have:es[i]?=none:=by rw [List.getElem?_eq_none_iff] at e ⊢;rw [h.len];exact e
  rw [this];rfl
 | some k =>
  obtain ⟨tk,z⟩:=h.at' i k e;rw [z];rfl
noncomputable def byT(w:World):Bool:=w.params.followText "set-order"
structure ISet(w:World)(h:Heap)(a:Addr)(ks:List Int):Prop where
 ex:∃o es ep t,h.get? a=some o/\o.ExactSet/\o.data=.set es ep t/\t.place.toList=(zad ks).map Int.toNat/\t.dummies=#[]/\t.plain=true/\t.led=!byT w/\(t.mask=31\/(t.mask=7/\(zad ks).length<=4))/\Els (zad ks) es.toList
section
variable{prog:Program}{w:World}{A:Around}{E:Z5}{s:Shared}
def zdf{es:Array (Int×Value)}{t:SetTable}{l:List Int}(hl:l.length<=8)(h1:t.place.toList=l.map Int.toNat)(h2:t.dummies=#[])(h3:t.mask=31\/(t.mask=7/\l.length<=7))(h4:Els l es.toList):t.fits es.size=true:=by
 have e1:t.place.size=l.length:=by rw [<-yaB,h1,yaf]
 have e2:es.size=l.length:=by rw [<-yaB,h4.len]
 unfold SetTable.fits SetTable.fill;rw [e1,e2,h2];have:(#[]:Array Nat).size=0:=rfl;rw [this];simp only [ybA,Bool.true_and,yaM]
 rcases h3 with z | ⟨z,y⟩<;>rw [z]<;>omega
def zms{es:Array (Int×Value)}{l:List Int}(hs:∀x∈l,0<=x/\x<8)(h:Els l es.toList):ElemsOf (intKind prog w) es.toList:=fun e he=>by
 obtain ⟨k,tk,hk,rfl⟩:=h.mem he;exact ⟨⟨k,intKind_is _ _ _ _,(zeM prog w (hs k hk)).symm⟩,rfl⟩
def zks{t:SetTable}{l:List Int}{k:Int}(hl:l.Pairwise (· < ·))(h0:∀x∈l,0<=x)(hk:0<=k/\k<8)(hn:k ∉ l)(h1:t.place.toList=l.map Int.toNat)(h2:t.dummies=#[])(h3:7<=t.mask):t.freeSlot k=some (k.toNat,false):=by
 have hj:SetTable.bits k % (t.mask+1)=k.toNat:=by
  rw [ziL hk];exact Nat.mod_eq_of_lt (by omega)
 have hnp:k.toNat ∉ t.place.toList:=by
  rw [h1];intro z;obtain ⟨x,hx,e⟩:=yaq.mp z;have:=h0 x hx;exact hn (by rw [show k=x by omega];exact hx)
 have es:=zjd (t:=t) (by rw [h1];exact zcm hl h0) h2 hnp;unfold SetTable.freeSlot SetTable.probe
 have e0:10*SetTable.turns t.mask=(10*SetTable.turns t.mask-1)+1:=by unfold SetTable.turns;omega
 rw [e0];unfold SetTable.probe.go;have ep:(t.probeStart k).j=k.toNat:=hj;have ed:(t.probeStart k).dummy=none:=rfl;rw [ep,es,ed];rfl
def zoK{t:SetTable}{es:Array (Int×Value)}{ks:List Int}{k:Int}{tk:Tok}(hk:0<=k/\k<8)(hn:k ∉ ks)(h1:t.place.toList=(zad ks).map Int.toNat)(h2:t.dummies=#[])(h3:t.mask=31\/(t.mask=7/\(zad ks).length<=4))(h4:Els (zad ks) es.toList) :
  ∃es1 t1,layNew t es k (.int k tk)=(es1,t1,false,false)/\t1.place.toList=(zad (ks++[k])).map Int.toNat/\t1.dummies=#[]/\t1.plain=t.plain/\t1.led=t.led/\t1.mask=t.mask/\t1.finger=t.finger/\Els (zad (ks++[k])) es1.toList:=by
 have hnc:k ∉ zad ks:=fun z=>hn (zaQ.mp z).2
 have hm:7<=t.mask:=by rcases h3 with z | ⟨z,_⟩<;>rw [z]<;>decide
 have fs:=zks za6 zcs hk hnc h1 h2 hm;obtain ⟨c,hc⟩:=zh4 t.place.toList k.toNat (by rw [h1];exact zcm za6 zcs);have eb:SetTable.below t.place k.toNat=c:=zex hc;rw [h1] at hc
 have hcl:c<=(zad ks).length:=by have:=hc.1;rwa [yaf] at this
 have en:=zgs hk hn hc;refine ⟨SetTable.insertAt es c (k,.int k tk),{ t with place:=SetTable.insertAt t.place c k.toNat },?_,?_,h2,rfl,rfl,rfl,rfl,?_⟩
 ·have fit:({ t with place:=SetTable.insertAt t.place c k.toNat }:SetTable).fits (SetTable.insertAt es c (k,.int k tk)).size=true:=by
   refine zdf (l:=zad (ks++[k])) zaA ?_ h2 ?_ ?_
   ·show (SetTable.insertAt t.place c k.toNat).toList=_;rw [zcx,h1,en,<-List.map_take,<-yc2,ybD,yau]
   ·have hl:(zad (ks++[k])).length=(zad ks).length+1:=by
     rw [en];simp only [yaw,yaj,yaI,yb2];omega
    rcases h3 with z | ⟨z,y⟩
    ·exact .inl z
    ·exact .inr ⟨z,by omega⟩
   ·rw [zcx,en];exact h4.ins c hcl k tk
  unfold layNew;rw [fs];dsimp only;rw [zqM h2];dsimp only;rw [eb];unfold SetTable.orStandIn;rw [fit];rfl
 ·show (SetTable.insertAt t.place c k.toNat).toList=_;rw [zcx,h1,en,<-List.map_take,<-yc2,ybD,yau]
 ·rw [zcx,en];exact h4.ins c hcl k tk
noncomputable def zj3(hs:Array Int):Option (List (Nat×Nat)):=(SetTable.layClean 31 hs).map fun owner=>(List.range 32).filterMap fun j=>(owner.getD j none).map (j,·)
noncomputable def zsr(b0 b1 b2 b3 b4 b5 b6 b7:Bool):List Int:=(if b0 then [0] else [])++((if b1 then [1] else [])++((if b2 then [2] else [])++((if b3 then [3] else [])++((if b4 then [4] else [])++((if b5 then [5] else [])++((if b6 then [6] else [])++(if b7 then [7] else [])))))))
def zl6:∀b0 b1 b2 b3 b4 b5 b6 b7:Bool,(zsr b0 b1 b2 b3 b4 b5 b6 b7).length=5->zj3 (zsr b0 b1 b2 b3 b4 b5 b6 b7).toArray=some (((zsr b0 b1 b2 b3 b4 b5 b6 b7).map Int.toNat).zip [0,1,2,3,4]):=by decide +kernel
def zkQ(ks:List Int):zad ks=zsr (decide ((0:Int)∈ks)) (decide ((1:Int)∈ks)) (decide ((2:Int)∈ks)) (decide ((3:Int)∈ks)) (decide ((4:Int)∈ks)) (decide ((5:Int)∈ks)) (decide ((6:Int)∈ks)) (decide ((7:Int)∈ks)):=by
 have fc:∀(p:Int->Bool) (x:Int) (l:List Int),List.filter p (x::l)=(if p x then [x] else [])++List.filter p l:=fun p x l=>by
  rw [yb3];cases p x<;>rfl
 unfold zad zfw;rw [fc,fc,fc,fc,fc,fc,fc,fc,List.filter_nil,yaK];rfl
def ztS{ks:List Int}(hl:(zad ks).length=5)(f mv:Nat)(led pl:Bool):SetTable.laid 31 f mv led pl (zad ks).toArray=some ({ mask:=31,place:=((zad ks).map Int.toNat).toArray,dummies:=#[],finger:=f,led:=led,moves:=mv,plain:=pl },#[0,1,2,3,4]):=by
 have e:zj3 (zad ks).toArray=some (((zad ks).map Int.toNat).zip [0,1,2,3,4]):=by
  rw [zkQ] at hl ⊢;exact zl6 _ _ _ _ _ _ _ _ hl
 unfold zj3 at e;unfold SetTable.laid
 cases q:SetTable.layClean 31 (zad ks).toArray with
 | none=>rw [q] at e;cases e
 | some owner =>
  rw [q] at e;have e':(List.range 32).filterMap (fun j=>(owner.getD j none).map (j,·))=((zad ks).map Int.toNat).zip [0,1,2,3,4]:=Option.some.inj e;show some _=some _;rw [e'];have z1:(((zad ks).map Int.toNat).zip [0,1,2,3,4]).map (·.1)=(zad ks).map Int.toNat:=List.map_fst_zip (by rw [yaf,hl];exact yal _);have z2:(((zad ks).map Int.toNat).zip [0,1,2,3,4]).map (·.2)=[0,1,2,3,4]:=List.map_snd_zip (by rw [yaf,hl];exact yal _);rw [z1,z2]
def zyt{α:Type}{es:Array α}(h:es.size=5):(#[0,1,2,3,4]:Array Nat).filterMap (es[·]?)=es:=by
 obtain ⟨l⟩:=es
 match l,h with
 | [a,b,c,d,e],_=>rfl
def zqG{t:SetTable}{es:Array (Int×Value)}{ks:List Int}(hl:(zad ks).length=5)(h4:Els (zad ks) es.toList):∃t2,relayAll t es (SetTable.grown es.size)=(es,t2,false)/\t2.place.toList=(zad ks).map Int.toNat/\t2.dummies=#[]/\t2.plain=t.plain/\t2.led=t.led/\t2.mask=31:=by
 have hz:es.size=5:=by rw [<-yaB,h4.len,hl]
 have hh:es.map (·.1)=(zad ks).toArray:=by
  apply Array.ext';rw [Array.toList_map,h4.hashes]
 have hm:SetTable.sizeAbove (SetTable.grown 5)-1=31:=by decide
 have er:t.relaid (es.map (·.1)) (SetTable.grown es.size)=some ({ mask:=31,place:=((zad ks).map Int.toNat).toArray,dummies:=#[],finger:=t.finger,led:=t.led,moves:=t.movedTo 31,plain:=t.plain },#[0,1,2,3,4]):=by
  unfold SetTable.relaid;rw [hz,hm,hh];exact ztS hl _ _ _ _
 refine ⟨{ mask:=31,place:=((zad ks).map Int.toNat).toArray,dummies:=#[],finger:=t.finger,led:=t.led,moves:=t.movedTo 31,plain:=t.plain },?_,rfl,rfl,rfl,rfl,rfl⟩;unfold relayAll;rw [er];dsimp only;rw [zyt hz];have fit:=zdf (es:=es) (t:={ mask:=31,place:=((zad ks).map Int.toNat).toArray,dummies:=#[],finger:=t.finger,led:=t.led,moves:=t.movedTo 31,plain:=t.plain }) (l:=zad ks) zaA rfl rfl (.inl rfl) h4;rw [fit,hz]
 have cv:coversAll #[0,1,2,3,4] 5=true:=by decide
 rw [cv];rfl
def zmh{a:Addr}{ks:List Int}{k:Int}{tk:Tok}{Q:Bool->Shared->Prop}(S:ISet w s.heap a ks)(hk:0<=k/\k<8)
  (h:∀h' c,Heap.SameBut a s.heap h'->ISet w h' a (ks++[k])->Q c { s with heap:=h',toks:=s.toks+1 }):wpAny (model prog w) A (setAdd a (.int k tk)) Q E s:=by
 unfold setAdd;refine ya5 (yaa ((intKind prog w).pyHash (k:=k) (intKind_is _ _ _ _) ?_));obtain ⟨o,es,ep,t,ho,hex,hd,h1,h2,h5,h6,h3,h4⟩:=S.ex;have hsm:∀x∈zad ks,0<=x/\x<8:=fun x hx=>(zaQ.mp hx).1
 have hf:t.fits es.size=true:=zdf zaA h1 h2 (h3.imp id fun z=>⟨z.1,by omega⟩) h4;have hel:ElemsOf (intKind prog w) es.toList:=zms hsm h4
 have hz:es.size<=8:=by rw [<-yaB,h4.len];exact zaA
 have hb:es.size<scanBound:=by unfold scanBound;omega
 unfold setAddHashed setAddHashedIn;refine ya5 (yaa (wpAny_setState_of (s:={ s with toks:=s.toks+1 }) ho hd hf ?_));dsimp only;rw [byScan_of (knd:=intKind prog w) rfl hb hel];simp only [↓reduceIte];unfold setAddByScan;refine yaa ?_;refine yaa (ycC ?_);refine yaa (wpAny_setScan_of (knd:=intKind prog w) (k:=k) (s:={ s with toks:=s.toks+1 }) (intKind_is _ _ _ _) ho hd hf hel ?_)
 cases hr:List.findIdx? (fun e=>(intKind prog w).is k e.2) es.toList with
 | some j =>
  dsimp only;obtain ⟨hj,hpj,_⟩:=List.findIdx?_eq_some_iff_getElem.mp hr;obtain ⟨k',tk',hk',e'⟩:=h4.mem (ya7 hj);rw [e'] at hpj;obtain ⟨u,eu⟩:=ycU (k:=k) (v:=Value.int k' tk') hpj
  have:k'=k:=by injection eu
  subst this;have hin:k'∈ks:=(zaQ.mp hk').2;refine yad (yad (h s.heap _ (Heap.SameBut.refl a s.heap) ?_));refine ⟨o,es,ep,t,ho,hex,hd,?_⟩;rw [zmF hin];exact ⟨h1,h2,h5,h6,h3,h4⟩
 | none =>
  dsimp only
  have hni:k ∉ ks:=fun z=>by
   obtain ⟨tk',he⟩:=h4.has (zaQ.mpr ⟨hk,z⟩);have:=List.findIdx?_eq_none_iff.mp hr _ he;rw [intKind_is] at this;cases this
  obtain ⟨es1,t1,eL,g1,g2,g3,g4,g5,g6,g7⟩:=zoK (tk:=tk) hk hni h1 h2 h3 h4;rw [zeM prog w hk,eL];dsimp only;refine yaa (ycp (a:=()) rfl ?_)
  have hsz1:es1.size=(zad (ks++[k])).length:=by rw [<-yaB,g7.len]
  have hsl:es1.size<=sizeLine:=by rw [hsz1];exact yao zaA (by decide)
  rw [g3,h5];simp only [ybP];refine yaa ?_;rw [hashByValue_scannable 8 (x:=.int k tk) rfl];refine yad ?_;have hpk:plainKind (.int k tk)=true:=rfl;rw [hpk];simp only [ybP];refine yaa (wpAny_storeSet_of (s:={ s with toks:=s.toks+1 }) ho hd ?_ hsl);obtain ⟨o1,w1,x1,d1⟩:=zvE (es':=es1) (t':=t1) ho hex hd;have sb1:Heap.SameBut a s.heap (s.heap.update a (Obj.putSet es1 t1)):=Heap.SameBut.update ..
  have hlen:(zad (ks++[k])).length=(zad ks).length+1:=by
   obtain ⟨c,hc⟩:=zh4 ((zad ks).map Int.toNat) k.toNat (zcm za6 zcs);rw [zgs hk hni hc]
   have:c<=(zad ks).length:=by have:=hc.1;rwa [yaf] at this
   simp only [yaw,yaj,yaI,yb2];omega
  have hfill:t1.fill=(zad (ks++[k])).length:=by
   unfold SetTable.fill;rw [g2];show t1.place.size+0=_;rw [<-yaB,g1,yaf];rfl
  by_cases hfull:(!false&&t1.tooFull)=true
  ·rw [if_pos hfull]
   have h5':(zad (ks++[k])).length=5:=by
    have hf:(zad (ks++[k])).length*5 ≥ t.mask*3:=by
     have:t1.tooFull=true:=by simpa using hfull
     unfold SetTable.tooFull at this;rw [hfill,g5] at this;simpa using this
    have:=zaA (ks:=ks++[k])
    rcases h3 with z | ⟨z,y⟩
    ·rw [z] at hf;omega
    ·rw [z] at hf;omega
   obtain ⟨t2,er,r1,r2,r3,r4,r5⟩:=zqG (t:=t1) h5' g7;rw [er];dsimp only;refine yaa (ycp (a:=()) rfl ?_);refine yaa (wpAny_storeSet_of (s:={ s with heap:=s.heap.update a (Obj.putSet es1 t1),toks:=s.toks+1 }) w1 d1 ?_ hsl);obtain ⟨o2,w2,x2,d2⟩:=zvE (es':=es1) (t':=t2) w1 x1 d1;have sb2:Heap.SameBut a s.heap ((s.heap.update a (Obj.putSet es1 t1)).update a (Obj.putSet es1 t2)):=sb1.trans (Heap.SameBut.update ..);refine yad ?_;dsimp only;refine yad (h _ true sb2 ⟨o2,es1,_,t2,w2,x2,d2,r1,r2,by rw [r3,g3,h5],by rw [r4,g4,h6],.inl r5,g7⟩)
  ·rw [if_neg hfull];refine yad ?_;dsimp only;refine yad (h _ true sb1 ⟨o1,es1,_,t1,w1,x1,d1,g1,g2,by rw [g3,h5],by rw [g4,h6],?_,g7⟩);rw [g5]
   rcases h3 with z | ⟨z,y⟩
   ·exact .inl z
   ·refine .inr ⟨z,?_⟩
    have:t1.tooFull=false:=by cases q:t1.tooFull with
     | false=>rfl
     | true=>rw [q] at hfull;exact absurd rfl hfull
    unfold SetTable.tooFull at this;rw [hfill,g5,z] at this;have:=of_decide_eq_false this;omega
end
end ST
namespace ST
open PySem PySem.Spec PyProof.Rows
def ISet.keep{w:World}{h h':Heap}{a:Addr}{ks:List Int}(x:ISet w h a ks)(e:∀o,h.get? a=some o->h'.get? a=some o):ISet w h' a ks:=by
 obtain ⟨o,es,ep,t,ho,r⟩:=x.ex;exact ⟨o,es,ep,t,e o ho,r⟩
theorem ISet.fresh{w:World}{h:Heap}{a:Addr}(e:h.get? a=some { cls:=.type "set",dict:=none,data:=.set #[] 0 (.fresh 0 0 (!byT w)) }):ISet w h a [] :=
 ⟨_,#[],0,.fresh 0 0 (!byT w),e,⟨rfl,rfl,rfl⟩,rfl,rfl,rfl,rfl,rfl,.inr ⟨rfl,by decide⟩,⟨rfl,fun i k z=>by cases z⟩⟩
section
variable{prog:Program}{w:World}{A:Around}{R:Result->Shared->Prop}{I:Addr}{fp wr:List Addr}{G:Array GenState->Array GenState->Prop}{n:Nat}{P:Nat->Value->Prop}{St:Nat->Shared->Prop}
def zkh(W:WalksS prog w A.in1 I fp wr G n P St)(S:Addr)(hSf:S ∉ fp)(val:Nat->Int)(hval:∀i v,P i v->∃t,v=.int (val i) t)(hs:∀i,i<n->0<=val i/\val i<8) :
  ∀(k i:Nat) (s:Shared),n-i=k->i<=n->St i s->ISet w s.heap S ((List.range i).map val) →
   (∀s',Moved (S::wr) G s s'->ISet w s'.heap S ((List.range n).map val)->R (.ok (.ret .none)) s') →
   codeAny (model prog w) A (.builtin "set.update.loop" ⟨[.ref S,.ref I],[]⟩) R s:=by
 have hSw:S ∉ wr:=fun h=>hSf (W.sub _ h)
 have hsub:∀b∈wr,b∈S::wr:=fun b hb=>yav _ hb
 intro k
 induction k with
 | zero =>
  intro i s hk hi hst hS hR
  have hin:i=n:=by omega
  subst hin;refine ycI ybZ ?_;rw [ycz ybs _];show wpAny _ A.in1 (pyNext (.ref I) >>= _) _ _ s;refine yaa (W.done s _ _ hst fun s' hm=>?_);show wpAny _ A.in1 (ret Value.none) _ _ s';exact yad (hR s' (hm.mono hsub) (hS.keep fun o ho=>hm.heap S _ hSw ho))
 | succ k ih =>
  intro i s hk hi hst hS hR
  have hlt:i<n:=by omega
  refine ycI ybZ ?_;rw [ycz ybs _];show wpAny _ A.in1 (pyNext (.ref I) >>= _) _ _ s;refine yaa (W.item i s _ _ hlt hst fun v s' hP hst' hm=>?_);obtain ⟨t,rfl⟩:=hval i v hP;have hS':ISet w s'.heap S ((List.range i).map val):=hS.keep fun o ho=>hm.heap S _ hSw ho
  show wpAny _ A.in1 (holding [Value.int (val i) t] (setAdd S (.int (val i) t)) >>= _) _ _ s';refine yaa (ya5 ?_);refine zmh hS' (hs i hlt) fun h' c hsb hS2=>?_
  have hSi:ISet w h' S ((List.range (i+1)).map val):=by
   rw [ybT,ybD];exact hS2
  refine yad ⟨plainId_quiet ybs _,ih (i+1) _ (by omega) hlt (W.frame _ s' _ _ hst' (yco _) fun b hb o e=>?_) hSi fun s'' hm'' hS''=>?_⟩
  ·rw [hsb.2 b (fun h:b=S=>hSf (by rw [<-h];exact hb))];exact e
  ·refine hR s'' (Moved.trans W.gtrans ((hm.mono hsub).then_heap (yco _) fun b o hb e=>?_) hm'') hS'';rw [hsb.2 b (fun h:b=S=>hb (by rw [h];exact yaE))];exact e
end
end ST
namespace PySem
section
variable{prog:Program}{w:World}{A:Around}{E:Z5}{s:Shared}
def zfx(a:Value){Q₁:Z5}
  (h:Q₁ (.ref s.heap.objs.size) { s with heap:=s.heap.push { cls:=.type "set",dict:=none,data:=.set #[] 0 (.fresh 0 0 (!ST.byT w)) } }) :
  codeAny (model prog w) A (.call (.builtin "set.__new__") ⟨[.type "set",a],[]⟩) (wants Q₁ E) s:=by
 refine codeAny_of_tree ?_;show wpAny _ A.in1 (do checkBuiltinCall "set.__new__" ⟨[.type "set",a],[]⟩;again (.builtin "set.__new__" ⟨[.type "set",a],[]⟩)) _ _ s;refine yaa (ycp (F.newCall_set_1 a) (yad ⟨plainId_quiet F.plain_set_new _,ycI F.entry_set_new ?_⟩));rw [ycz F.plain_set_new _];unfold Builtin.«set.__new__» Builtin.Frozenset.newClass;have hsub:=sub_set_self;obtain ⟨hp,g,d,tk,os⟩:=s;dsimp only
 wp_walk
 refine wpAny_askSetting (yad ?_);dsimp only;simp only [newObj];refine yaa (wpAny_alloc (yad ?_));exact yad h
def zkR{l:Addr}{items:Array Value}{ns:List Int}{Q:Z5}
  (hh:A.handled=none) (hl:s.heap.IsList l items) (hi:PyProof.Rows.IntsAre items.toList ns) (hs:∀k∈ns,0<=k/\k<8)
  (h:∀(h':Heap) (tk:Nat),ST.ISet w h' s.heap.objs.size ns->(∀b o,s.heap.get? b=some o->h'.get? b=some o)->Q (.ref s.heap.objs.size) { s with heap:=h',toks:=tk }) :
  wpAny (model prog w) A (call (.type "set") [.ref l]) Q E s:=by
 have hnl:items.size=ns.length:=by rw [<-yaB];exact PyProof.Rows.IntsAre.length hi
 have ern:(List.range items.size).map (fun i=>ns.getD i 0)=ns:=by
  apply ybu;intro i;rw [yas,hnl]
  by_cases hi:i<ns.length
  ·rw [List.getElem?_range hi,yac hi];show some (ns.getD i 0)=_;rw [yat,yac hi];rfl
  ·rw [yaV (by rw [ycY];omega),yaV (by omega)];rfl
 obtain ⟨c,tl,hmro⟩:=ybU.mro;have hmade:=ybU.made;have hsub:=ybU.sub;refine wpAny_call (codeAny_of_tree ?_);show wpAny _ _ (callAny (.type "set") _) _ _ _;refine yad ⟨Code.quiet_builtin _ (by decide +kernel),ycI F.entry_type_call ?_⟩;rw [Around.under_plain (weight_type_call_type "set" [.ref l] []) rfl];have h1:=ybU.notType;have h2:=ybU.canCreate;have hct:=F.typeCall_set_1 (.ref l)
 repeat (any_goals (first | assumption | wp_step))
 refine yct (zfx (.ref l) (E:=E) (Q₁:=fun obj s₁=>obj=.ref s.heap.objs.size/\s₁={ s with heap:=s.heap.push { cls:=.type "set",dict:=none,data:=.set #[] 0 (.fresh 0 0 (!ST.byT w)) } }) ⟨rfl,rfl⟩) fun r s₁ hr=>?_
 cases r with
 | error e=>exact hr
 | ok fl =>
  cases fl with
  | ret obj =>
   obtain ⟨rfl,rfl⟩:=hr;generalize hG:s.heap.push { cls:=.type "set",dict:=none,data:=.set #[] 0 (.fresh 0 0 (!ST.byT w)) }=G;have hS:G.get? s.heap.objs.size=some { cls:=.type "set",dict:=none,data:=.set #[] 0 (.fresh 0 0 (!ST.byT w)) }:=hG ▸ yam _ rfl;have upG:∀b o,s.heap.get? b=some o->G.get? b=some o:=fun b o e=>hG ▸ yae _ e
   have hGz:G.objs.size=s.heap.objs.size+1:=by rw [<-hG,ya4]
   have hT:Shared.TypeIs { s with heap:=G } (.ref s.heap.objs.size) "set":=⟨_,hS,rfl⟩;have hli:=ybU.init.lookup;have hbi:=ybU.init.bind (.ref s.heap.objs.size)
   repeat (any_goals (first | assumption | wp_step))
   refine yct (codeAny_call_builtin (R:=wants (fun r s₂=>r=.none/\∃h' tk,s₂={ s with heap:=h',toks:=tk }/\ST.ISet w h' s.heap.objs.size ns ∧
     (∀b o,s.heap.get? b=some o->h'.get? b=some o)) E) ybU.init.plain F.entry_set_init (check_set_init_1 hT ?_)) fun r₂ s₂ hr₂=>?_
   ·obtain ⟨ol,hol,hcl,nl,hdl⟩:=hl;have hol':G.get? l=some ol:=upG l ol hol;obtain ⟨ocls,odict,odata,oslots⟩:=ol;simp only at hcl hdl;subst hcl;subst hdl;have hsls:=F.sub_list_set;have hslf:=F.sub_list_frozenset
    have hne:(Value.type "list" == Value.type "dict")=false:=by decide
    have hl1:G.IsList l items:=⟨_,hol',rfl,nl,rfl⟩;unfold Builtin.«set.__init__» noKeywords Builtin.Frozenset.updateFrom;generalize hPI:pyIter=PI
    wp_walk
    subst hPI;refine ybV hl1 ?_;refine yaa (wpAny_runValue ?_);have hlS:l<s.heap.objs.size:=yai hol
    have hh3:A.in1.in1.in1.handled=none:=by simp [hh]
    have hneI:l≠G.objs.size:=by rw [hGz];exact yar (ybC hlS)
    have hSf:s.heap.objs.size ∉ [G.objs.size,l]:=by
     rw [hGz];simp only [yap,yaU,yaJ,ybF,not_or];exact ⟨yar (yb1 _),yaX hlS⟩
    have hval:∀(i:Nat) (v:Value),items[i]?=some v->∃t,v=.int ((fun i=>ns.getD i 0) i) t:=fun i v hv =>
     PyProof.Rows.IntsAre.int_at hi i v (by rw [ybm];exact hv)
    refine ST.zkh ((Walks.list hh3 _ l hneI items).toS) s.heap.objs.size hSf (fun i=>ns.getD i 0) hval (fun i hi=>?_) (items.size-0) 0 _ (by omega) (yaW _)
     ⟨⟨_,yam _ rfl,rfl,rfl⟩,(hl1.push _)⟩ ?hS0 ?hR
    ·have hlt:i<ns.length:=by omega
     show 0<=ns.getD i 0/\ns.getD i 0<8;rw [yat,yac hlt];exact hs _ (ya7 hlt)
    case hS0=>exact ST.ISet.fresh (yae _ hS)
    case hR =>
     intro s' hm hS';rw [ern] at hS';obtain ⟨h',g',d',tk',os'⟩:=s';have eg:g'=s.gens:=hm.gens;have ed:d'=s.drawn:=hm.drawn;have eo:os'=s.os:=hm.os;subst eg;subst ed;subst eo;show wpAny _ _ _ _ _ _;refine yad ?_;show wpAny _ _ (ret Value.none) _ _ _;refine yad ⟨rfl,h',tk',rfl,hS',fun b o e=>?_⟩;have hb1:b≠s.heap.objs.size:=yar (yai e)
     have hb2:b≠G.objs.size:=by rw [hGz];exact yar (ybC (yai e))
     exact hm.heap b o (by simp only [yap,yaU,yaJ,ybF,not_or];exact ⟨hb1,hb2⟩) (yae _ (upG b o e))
   ·cases r₂ with
    | error e=>exact hr₂
    | ok fl₂ =>
     cases fl₂ with
     | ret r =>
      obtain ⟨rfl,h',tk,rfl,hS',hk'⟩:=hr₂
      repeat (any_goals (first | assumption | wp_step))
      exact h _ _ hS' hk'
     | _=>exact hr₂.elim
  | _=>exact hr.elim
end
end PySem
namespace ST
open PySem PySem.Spec PyProof.Rows
def zaZ:Slot "set_iterator" "__next__" "set_iterator.__next__" :=
 .of (owner:="set_iterator") (n:="__next__") (by rw [typeLookup_type,builtinLookup_eq_fast];kernel_rfl) (by decide +kernel) (by decide +kernel) (by decide +kernel)
  (by first | exact .inl (by decide +kernel) | exact .inr (by decide +kernel)) (by rw [isSubtype_type];kernel_rfl)
def zdD:Slot "set_iterator" "__iter__" "set_iterator.__iter__" :=
 .of (owner:="set_iterator") (n:="__iter__") (by rw [typeLookup_type,builtinLookup_eq_fast];kernel_rfl) (by decide +kernel) (by decide +kernel) (by decide +kernel)
  (by first | exact .inl (by decide +kernel) | exact .inr (by decide +kernel)) (by rw [isSubtype_type];kernel_rfl)
def zdl:entryFor table "set_iterator.__next__" = some Builtin.«set_iterator.__next__»:=entryFor_of_tree (by kernel_rfl)
def zfv:entryFor table "set_iterator.__iter__" = some Builtin.«dict_keyiterator.__iter__» :=
 entryFor_alias (id':="dict_keyiterator.__iter__") (by kernel_rfl) rfl (by decide +kernel) (by kernel_rfl)
def zgm:entryFor table "set.__iter__" = some Builtin.«frozenset.__iter__» :=
 entryFor_alias (id':="frozenset.__iter__") (by kernel_rfl) rfl (by decide +kernel) (by kernel_rfl)
def zhG:Manifest.owners.lookup (String.ofList ['r','o','t','a','r','e','t','i','_','t','e','s'].reverse)=some Manifest.sig_set_iterator:=by kernel_rfl
def zdL(a:Value):argsOk "set_iterator.__next__" ⟨[a],[]⟩:=by
 unfold argsOk;rw [signature?_of (id:="set_iterator.__next__") (n:=['_','_','t','x','e','n','_','_']) (o:=['r','o','t','a','r','e','t','i','_','t','e','s']) (by kernel_rfl) zhG];kernel_rfl
def zgB(a:Value):argsOk "set_iterator.__iter__" ⟨[a],[]⟩:=by
 unfold argsOk;rw [signature?_of (id:="set_iterator.__iter__") (n:=['_','_','r','e','t','i','_','_']) (o:=['r','o','t','a','r','e','t','i','_','t','e','s']) (by kernel_rfl) zhG];kernel_rfl
noncomputable def SAt(w:World)(h:Heap)(a:Addr)(ks:List Int)(es:Array (Int×Value))(ep:Nat)(t:SetTable):Prop :=
 (∃o,h.get? a=some o/\o.ExactSet/\o.data=.set es ep t)/\t.place.toList=(zad ks).map Int.toNat/\t.dummies=#[]/\t.plain=true/\t.led=!byT w/\(t.mask=31\/(t.mask=7/\(zad ks).length<=4))/\Els (zad ks) es.toList
def ISet.sat{w:World}{h:Heap}{a:Addr}{ks:List Int}(x:ISet w h a ks):∃es ep t,SAt w h a ks es ep t:=by
 obtain ⟨o,es,ep,t,h1,h2,h3,r⟩:=x.ex;exact ⟨es,ep,t,⟨o,h1,h2,h3⟩,r⟩
def SAt.at{w:World}{h h':Heap}{a:Addr}{ks:List Int}{es:Array (Int×Value)}{ep:Nat}{t:SetTable}(x:SAt w h a ks es ep t)(e:∀o,h.get? a=some o->h'.get? a=some o):SAt w h' a ks es ep t :=
 let ⟨⟨o,h1,r⟩,q⟩:=x;⟨⟨o,e o h1,r⟩,q⟩
noncomputable def zmP(h:Heap)(it a:Addr)(sl i n ep:Nat):Prop:=∃o,h.get? it=some o/\o.cls=.type "set_iterator" /\ o.data=.fields #[.int sl 0,.int i 0,.ref a,.int n 0,.int ep 0]
def zmP.typeIs{s:Shared}{it a:Addr}{sl i n ep:Nat}(x:zmP s.heap it a sl i n ep):s.TypeIs (.ref it) "set_iterator":=let ⟨o,ho,hc,_⟩:=x;⟨o,ho,hc⟩
def zmP.at{h h':Heap}{it a:Addr}{sl i n ep:Nat}(x:zmP h it a sl i n ep)(e:∀o,h.get? it=some o->h'.get? it=some o):zmP h' it a sl i n ep:=let ⟨o,ho,r⟩:=x;⟨o,e o ho,r⟩
noncomputable def ziR(w:World)(a:Addr)(ep:Nat)(es:Array (Int×Value)):Array (Int×Value):=if byT w then pickOrder (w.params.setOrder a ep) es else es
noncomputable def slN(w:World)(l:List Int)(i:Nat):Nat:=if byT w then 0 else if i=0 then 0 else (l.getD (i-1) 0).toNat+1
theorem zeP{α:Type}:∀(l:List α) (i:Nat) (h:i<l.length),([l[i]]++l.eraseIdx i).Perm l
 | x::xs,0,_=>List.Perm.refl _
 | x::xs,i+1,h=>by
  have h':i<xs.length:=by simpa using h
  exact (List.Perm.swap x (xs[i]'h') (xs.eraseIdx i)).trans (List.Perm.cons x (zeP xs i h'))
theorem zjH{α:Type}{next:Nat->Nat}:∀(fuel k:Nat) (left:List α) (out:Array α),left.length<=fuel->(pickOrder.go next fuel k left out).toList.Perm (out.toList++left)
 | 0,k,left,out,h=>by
  have:left=[]:=ya8 (by omega);subst this;unfold pickOrder.go;rw [yaK]
 | fuel+1,k,[],out,h=>by
  unfold pickOrder.go;have:([]:List α)[next k % ([]:List α).length]?=none:=rfl;rw [this,yaK]
 | fuel+1,k,x::xs,out,h=>by
  have hlt:next k % (x::xs).length<(x::xs).length:=Nat.mod_lt _ (by simp);unfold pickOrder.go;rw [yac hlt];dsimp only
  have hl:((x::xs).eraseIdx (next k % (x::xs).length)).length<=fuel:=by
   rw [List.length_eraseIdx_of_lt hlt];simp at h ⊢;exact h
  refine (zjH fuel (k+1) _ _ hl).trans ?_;rw [Array.toList_push,ycn];refine List.Perm.append_left _ ?_;exact zeP _ _ hlt
def zjG{α:Type}{next:Nat->Nat}(xs:Array α):(pickOrder next xs).toList.Perm xs.toList:=by
 have:=zjH (next:=next) xs.size 0 xs.toList #[] (by simp);unfold pickOrder;simpa using this
def zfg{w:World}{a:Addr}{ep:Nat}{es:Array (Int×Value)}:(ziR w a ep es).toList.Perm es.toList:=by
 unfold ziR;split
 ·exact zjG es
 ·exact List.Perm.refl _
def zdZ{w:World}{a:Addr}{ep:Nat}{es:Array (Int×Value)}:(ziR w a ep es).size=es.size:=by
 rw [<-yaB,zfg.length_eq,yaB]
section
variable{prog:Program}{w:World}{A:Around}{E:Z5}{s:Shared}{a:Addr}{ks:List Int}{es:Array (Int×Value)}{ep:Nat}{t:SetTable}
theorem SAt.fits{h:Heap}(x:SAt w h a ks es ep t):t.fits es.size=true:=by
 obtain ⟨_,h1,h2,_,_,h3,h4⟩:=x;exact zdf zaA h1 h2 (h3.imp id fun z=>⟨z.1,by omega⟩) h4
def zc3{Q:(Array (Int×Value)×Nat×SetTable)->Shared->Prop}(x:SAt w s.heap a ks es ep t)(h:Q (es,ep,t) s):wpAny (model prog w) A (setState a) Q E s:=by
 obtain ⟨o,ho,_,hd⟩:=x.1;exact wpAny_setState_of ho hd x.fits h
def ziU{Q:Bool->Shared->Prop}(h:Q (byT w) s):wpAny (model prog w) A setsByText Q E s:=by
 unfold setsByText;exact yaa (wpAny_askSetting (yad h))
def zmM{l:List Int}{place:Array Nat}(h1:place.toList=l.map Int.toNat)(hs:l.Pairwise (· < ·))(h0:∀x∈l,0<=x){i:Nat}(hi:i<=l.length):SetTable.below place (if i=0 then 0 else (l.getD (i-1) 0).toNat+1)=i:=by
 refine zex ?_;have ps:=zcm hs h0;rw [h1];refine ⟨by rw [yaf];exact hi,?_,?_⟩
 ·intro k x hk hx;split
  ·omega
  ·rename_i hne;rw [yas] at hx
   have hkl:k<l.length:=by omega
   have hil:i-1<l.length:=by omega
   rw [yac hkl] at hx;cases hx;rw [yat,yac hil];show l[k].toNat<l[i-1].toNat+1
   rcases ycS k (i-1) with z | z
   ·have:=yb0.mp hs k (i-1) hkl hil z;have:=h0 _ (ya7 hkl);omega
   ·have:k=i-1:=by omega
    subst this;omega
 ·intro k x hk hx;split
  ·omega
  ·rename_i hne;rw [yas] at hx
   have hkl:k<l.length:=by
    rcases ycS k l.length with z | z
    ·exact z
    ·rw [yaV z] at hx;cases hx
   have hil:i-1<l.length:=by omega
   rw [yac hkl] at hx;cases hx;rw [yat,yac hil];show l[i-1].toNat+1<=l[k].toNat;have:=yb0.mp hs (i-1) k hil hkl (by omega);have:=h0 _ (ya7 hil);omega
def ziT{Q:Option (Value×Nat)->Shared->Prop}(x:SAt w s.heap a ks es ep t){i:Nat}(hi:i<=es.size)
  (h:Q ((ziR w a ep es)[i]?.map fun e=>(e.2,slN w (zad ks) (i+1))) s):wpAny (model prog w) A (setNext a (slN w (zad ks) i) i ep) Q E s:=by
 obtain ⟨_,h1,h2,h5,h6,h3,h4⟩:=id x;unfold setNext;refine yaa (zc3 x ?_);dsimp only;refine yaa (ziU ?_);unfold ziR slN at h;unfold slN
 cases hb:byT w with
 | true =>
  rw [hb] at h;simp only [ybP] at h ⊢;rw [if_neg (by simp)];refine yaa ?_;unfold setWalk;refine yaa (zc3 x ?_);dsimp only;refine yaa (ziU ?_);rw [hb];simp only [ybP];refine yaa (wpAny_askSetting (yad ?_));exact yad h
 | false =>
  rw [hb] at h h6;simp only [yaD,yby] at h ⊢;obtain ⟨mask,place,dummies,finger,led,moves,plain⟩:=t;simp only at h1 h2 h5 h6 h3;subst h5 h6;refine yce (fun z=>absurd z ya1) (fun _=>?_);refine yaa (ycp (a:=()) rfl ?_)
  have hz:es.size=(zad ks).length:=by rw [<-yaB,h4.len]
  rw [zmM h1 za6 zcs (by omega)];refine yad ?_
  rcases ycS i es.size with z | z
  ·have hl:i<(zad ks).length:=by omega
   have e1:es[i]?=some es[i]:=ybi z
   have e2:place[i]?=some ((zad ks)[i]).toNat:=by
    rw [<-ybm,h1,yas,yac hl];rfl
   rw [e1] at h ⊢;rw [e2]
   have e3:(zad ks).getD (i+1-1) 0=(zad ks)[i]:=by
    rw [Nat.add_sub_cancel,yat,yac hl];rfl
   rwa [if_neg (by omega),e3] at h
  ·have e1:es[i]?=none:=ybL z;rw [e1] at h ⊢;exact h
end
end ST
namespace ST
open PySem PySem.Spec PyProof.Rows
section
variable{prog:Program}{w:World}{A:Around}{E:Z5}{s:Shared}{a it:Addr}{ks:List Int}{es:Array (Int×Value)}{ep:Nat}{t:SetTable}
def zdp{Q:Array (Int×Value)->Shared->Prop}(x:SAt w s.heap a ks es ep t)(h:Q es s):wpAny (model prog w) A (setEntries a) Q E s:=by
 unfold setEntries;exact yaa (zc3 x (yad h))
def zje{Q:Z5}(x:SAt w s.heap a ks es ep t)
  (hQ:Q (.ref s.heap.objs.size) { s with heap:=s.heap.push { cls:=.type "set_iterator",data:=.fields #[.int 0 0,.int 0 0,.ref a,.int es.size 0,.int ep 0] } }):wpAny (model prog w) A (pyIter (.ref a)) Q E s:=by
 obtain ⟨⟨o,ho,hx,hd⟩,_,_,h5,_⟩:=id x;have hT:s.TypeIs (.ref a) "set":=⟨o,ho,hx.1⟩;refine wpAny_pyIter_slot hT PySem.F.slot_set_iter (yaN PySem.F.slot_set_iter hT zgm ?_ (PySem.F.args_set_iter_1 _));unfold Builtin.«frozenset.__iter__»;refine yaa (ycp (a:=a) rfl ?_);refine yaa ?_;unfold Builtin.Frozenset.sizeOf;refine yaa (zdp x (yad ?_));refine yaa ?_;unfold setDrawn;refine yaa (zc3 x ?_);dsimp only;refine yaa (ziU ?_);refine yad ?_;obtain ⟨mask,place,dummies,finger,led,moves,plain⟩:=t;simp only at h5;subst h5
 refine yce (fun z=>absurd z (by
  cases byT w
  ·exact ya1
  ·exact ya1)) (fun _=>?_)
 refine yaa (yad ?_);refine yaa ?_;unfold setEpoch;refine yaa (zc3 x (yad ?_));refine yaa (yaR (yad ⟨_,rfl,"set_iterator",_,⟨_,yam _ rfl,rfl⟩,zaZ.lookup,hQ⟩))
def znX{Q:Option Value->Shared->Prop}{i:Nat}{e:Int×Value}(hit:zmP s.heap it a (slN w (zad ks) i) i es.size ep)(x:SAt w s.heap a ks es ep t)(hx:(ziR w a ep es)[i]?=some e)
  (hQ:∀h',zmP h' it a (slN w (zad ks) (i+1)) (i+1) es.size ep->Heap.SameBut it s.heap h'->Q (some e.2) { s with heap:=h' }):wpAny (model prog w) A (pyNext (.ref it)) Q E s:=by
 obtain ⟨o,ho,hc,hd⟩:=id hit
 have hlt:i<=es.size:=by
  have:=(Array.getElem?_eq_some_iff.mp hx).1;rw [zdZ] at this;omega
 unfold pyNext;refine yaa (ycB (yaT (name:=Str.ofString "__next__") hit.typeIs zaZ (yaN zaZ hit.typeIs zdl ?_ (zdL _))));unfold Builtin.«set_iterator.__next__»;refine yaa (yad ?_);refine yaa (wpAny_fieldsOf ho hd ?_);dsimp only;refine yaa (zdp x ?_);rw [if_neg (by simp)];refine yaa ?_;rw [yba,yba,yba];refine ziT x hlt ?_;rw [hx];show wpAny _ _ (setField (.ref it) 0 (rawInt (slN w (zad ks) (i+1))) >>= _) _ _ s;refine yaa (ycr ho hd (by simp) ?_);have ho1:=ybl (Obj.mapFields (·.setIfInBounds 0 (rawInt (slN w (zad ks) (i+1))))) ho (ycu (ybd hd _));refine yaa (ycr (s:={ s with heap:=s.heap.update it (Obj.mapFields (·.setIfInBounds 0 (rawInt (slN w (zad ks) (i+1))))) }) ho1 (ybd hd _) (by simp) ?_);have ho2:=ybl (Obj.mapFields (·.setIfInBounds 1 (rawInt ((i:Int)+1)))) ho1 (ycu (ybd (ybd hd _) _));refine yad ⟨_,rfl,yad (hQ _ ⟨_,ho2,?_,?_⟩ ((Heap.SameBut.update ..).trans (Heap.SameBut.update ..)))⟩
 ·exact (ycX ..).trans ((ycX ..).trans hc)
 ·rw [ybd (ybd hd _)];simp [rawInt]
def zqi{Q:Option Value->Shared->Prop}(hh:A.handled=none)(hit:zmP s.heap it a (slN w (zad ks) es.size) es.size es.size ep)(x:SAt w s.heap a ks es ep t)(hQ:∀h',Heap.ExtBut it s.heap h'->Q none { s with heap:=h' }):wpAny (model prog w) A (pyNext (.ref it)) Q E s:=by
 obtain ⟨o,ho,hc,hd⟩:=id hit;unfold pyNext;refine yaa (ycB (yaT (name:=Str.ofString "__next__") hit.typeIs zaZ (yaN zaZ hit.typeIs zdl ?_ (zdL _))));unfold Builtin.«set_iterator.__next__»;refine yaa (yad ?_);refine yaa (wpAny_fieldsOf ho hd ?_);dsimp only;refine yaa (zdp x ?_);rw [if_neg (by simp)];refine yaa ?_;rw [yba,yba,yba];refine ziT x (yal _) ?_;have hn:(ziR w a ep es)[es.size]?=none:=ybL (by rw [zdZ];exact yal _);rw [hn];show wpAny _ _ (setField (.ref it) 2 .none >>= _) _ _ s;refine yaa (ycr ho hd (by simp) ?_);show wpAny _ _ (newExc (.type "StopIteration") [] >>= _) _ _ _;refine yaa ?_;simp only [newExc,newTuple];refine yaa (yaR ?_ (by size_fits));refine yaa (m:=firstArgMember _ _) (ycp (a:=Value.none) (by first | rfl | (simp only [firstArgMember];rfl)) ?_);refine yaR ?_ (by size_fits);simp only [raiseNew];refine yaa (wpAny_handled ?_);rw [show A.in1.handled=none from hh];refine yaa (yad (wpAny_throw ?_));refine yaa (ybH (T:="StopIteration") (b:=true) ⟨_,yam _ rfl,rfl⟩ isSubtype_stop ?_);exact yad (hQ _ (((Heap.SameBut.update ..).extBut.push _).push _))
def ziV(hh:A.handled=none)(I:Addr)(hne:a≠I):Walks prog w A I [I,a] [I] es.size (fun i v=>∃e,(ziR w a ep es)[i]?=some e/\e.2=v) (fun i h=>zmP h I a (slN w (zad ks) i) i es.size ep/\SAt w h a ks es ep t) where
 sub:=fun b hb=>by simp at hb;simp [hb]
 frame:=fun _ _ _ st hk=>⟨st.1.at fun o e=>hk I (by simp) o e,st.2.at fun o e=>hk a (by simp) o e⟩
 item:=fun i s Q E hi st hQ=>by
  obtain ⟨e,hx⟩:∃e,(ziR w a ep es)[i]?=some e:=⟨_,ybi (by rw [zdZ];exact hi)⟩;refine znX st.1 st.2 hx fun h' hit' hs'=>?_
  exact hQ e.2 h' s.toks ⟨e,hx,rfl⟩ ⟨hit',st.2.at fun o e=>hs'.extBut a o hne e⟩ fun b o hb e=>hs'.extBut b o (fun h=>hb (by simp [h])) e
 done:=fun s Q E st hQ=>zqi hh st.1 st.2 fun h' he'=>hQ h' s.toks fun b o hb e=>he' b o (fun h=>hb (by simp [h])) e
 self:=fun i s Q E st hQ=>by
  refine wpAny_pyIter_slot st.1.typeIs zdD (yaN zdD st.1.typeIs zfv ?_ (zgB _));show wpAny _ _ (ret (.ref I)) _ _ s;exact yad ⟨_,rfl,"set_iterator",_,st.1.typeIs,zaZ.lookup,hQ⟩
end
end ST
namespace ST
open PySem PySem.Spec PySem.W PyProof.Rows
section
variable{prog:Program}{w:World}{A:Around}{E:Z5}{s:Shared}{a:Addr}{ks:List Int}{es:Array (Int×Value)}{ep:Nat}{t:SetTable}
def zml{r:Addr}{Q:Bool->Shared->Prop}(hT:s.TypeIs (.ref r) "set")(h:Q false s):wpAny (model prog w) A (Builtin.List.listLengthHint (.ref r)) Q E s:=by
 unfold Builtin.List.listLengthHint;refine yaa (wpAny_specialOf hT PySem.F.slot_set_len.lookup ?_);generalize hid:("set.__len__":String)=id0
 wp_delta
 rw [show splitId id0=some ("set","__len__") from by subst hid;decide +kernel];subst hid;refine yaa (ybH (T:="set") (b:=true) hT (by rw [isSubtype_type];kernel_rfl) ?_);refine yce (fun hab=>absurd hab (by decide)) (fun _=>?_);refine yce (fun _=>?_) (fun hab=>absurd (by decide +kernel) hab);refine yaa (ycM hT ?_);exact yad h
def SAt.typeIs(x:SAt w s.heap a ks es ep t):s.TypeIs (.ref a) "set":=let ⟨⟨o,ho,hx,_⟩,_⟩:=x;⟨o,ho,hx.1⟩
def SAt.lt{h:Heap}(x:SAt w h a ks es ep t):a<h.objs.size:=let ⟨⟨_,ho,_⟩,_⟩:=x;yai ho
def zoM:KdlSrc prog w "set" a a es.size (fun i v=>∃e,(ziR w a ep es)[i]?=some e/\e.2=v) (fun h=>SAt w h a ks es ep t) where
 type:=fun _ x=>x.typeIs
 there:=fun _ x=>⟨x.lt,x.lt⟩
 keep:=fun _ _ x hk=>x.at fun o e=>hk a (.inl rfl) o e
 notList:=by decide
 notTuple:=by decide
 hint:=fun _ _ _ _ x hq=>zml x.typeIs hq
 iter:=fun A s hh x=>⟨_,_,(fun _ _ hq=>zje x hq),ziV hh _ (yar x.lt),by
  refine ⟨⟨_,yam _ rfl,rfl,?_⟩,x.at fun o e=>yae _ e⟩
  have:slN w (zad ks) 0=0:=by unfold slN;split<;>rfl
  rw [this];rfl⟩
def zil{Q:Z5}(hh:A.handled=none)(S:ISet w s.heap a ks)
  (h:∀(hm h':Heap) (tk e:Nat) (vs:List Value),(∀b o,s.heap.get? b=some o->hm.get? b=some o)->(∀b o,hm.get? b=some o->h'.get? b=some o)->h'.get? hm.objs.size=some (seqObj "list" vs.toArray e)->IntsAre vs (zad ks)->Q (.ref hm.objs.size) { s with heap:=h',toks:=tk }) :
  wpAny (model prog w) A (call (.builtin "sorted") [.ref a]) Q E s:=by
 obtain ⟨es,ep,t,x⟩:=S.sat;have h4:=x.2.2.2.2.2.2
 have hz:es.size=(zad ks).length:=by rw [<-yaB,h4.len]
 have h8:=zaA (ks:=ks);refine Calls.call_function_entry kind_sorted plain_sorted entry_sorted (args_sorted1 _) ?_;unfold Builtin.«sorted»;refine yaa (m:=checkCount "sorted" 1 1 _) (yad ?_);refine yaa (kdu_collect (A:=A.in1) (zoM (prog:=prog)) hh x (by rw [hz];exact yao h8 (by decide)) fun h' tk acc hk hacc=>?_)
 have hl:acc.toList.length=es.size:=by rw [yaB];exact hacc.1
 refine yaa (yc3 ?_ (by rw [hl,hz];exact yao h8 (by decide)));have hoL:(h'.push (seqObj "list" acc.toList.toArray 0)).get? h'.objs.size=some (seqObj "list" acc.toList.toArray 0):=yam _ rfl
 have hv:acc.toList=(ziR w a ep es).toList.map (·.2):=by
  apply ybu;intro i;rw [yas,ybm,ybm]
  rcases ycS i es.size with z | z
  ·have z':i<acc.size:=by rw [hacc.1];exact z
   obtain ⟨e,e1,e2⟩:=hacc.2 i acc[i] (ybi z');rw [ybi z',e1];show some acc[i]=some e.2;rw [e2]
  ·rw [ybL (by rw [hacc.1];exact z),ybL (by rw [zdZ];exact z)];rfl
 obtain ⟨ns,hns,hp⟩:∃ns,IntsAre acc.toList ns/\ns.Perm (zad ks):=by
  have go:∀l:List (Int×Value),(∀e∈l,∃k tk,e=(k,Value.int k tk))->IntsAre (l.map (·.2)) (l.map (·.1)):=by
   intro l
   induction l with
   | nil=>intro _;exact .nil
   | cons e l ih =>
    intro hm;obtain ⟨k,tk,rfl⟩:=hm e yaE;exact .cons k tk (ih fun e he=>hm e (yav _ he))
  refine ⟨(ziR w a ep es).toList.map (·.1),?_,?_⟩
  ·rw [hv]
   exact go _ fun e he=>by
    obtain ⟨k,tk,_,z⟩:=h4.mem (zfg.mem_iff.mp he);exact ⟨k,tk,z⟩
  ·have:=(zfg (w:=w) (a:=a) (ep:=ep) (es:=es)).map (·.1);rwa [h4.hashes] at this
 refine yaa (ya5 (yaN slot_list_sort ⟨_,hoL,rfl⟩ entry_list_sort (list_sort_tree (s:={ s with heap:=h'.push (seqObj "list" acc.toList.toArray 0),toks:=tk }) hoL hns (by rw [hl,hz];omega) fun out ns' a1 a2 a3=>⟨_,rfl,?_⟩) (args_list_sort _)));refine yad ⟨_,rfl,?_⟩;obtain ⟨e,he⟩:=sortedHeap_at (out:=out) hoL;have en:ns'=zad ks:=lks_uniq (a2.trans hp) a3 (List.Pairwise.imp (fun {a b} h=>by omega) za6);refine h h' _ tk e out.toList hk (fun b o hb=>?_) (by simpa using he) (by rw [<-en];exact a1);have hlt:b<h'.objs.size:=yai hb;rw [sortedHeap_old (yar hlt) (by rw [size_push'];exact ybC hlt)];exact yae _ hb
end
end ST
namespace L2
open PySem PySem.Spec PyProof.Rows
section
variable{X:Cx}
noncomputable def zic(w:World)(a:Addr)(ks:List Int)(h:Heap):Prop:=ST.ISet w h a ks
theorem zdI:∀{ns:List Int} {vs:List Value},Vals (ns.map V.int) vs->IntsAre vs ns
 | [],_,r=>by rw [List.map_nil] at r;cases r;exact .nil
 | n::ns,_,r=>by
  rw [yau] at r
  cases r with
  | cons h t =>
   obtain ⟨u,e⟩:=(show ∃t,_=Value.int n t from h);subst e;exact .cons n u (zdI t)
def zfI{ns:List Int}{vs:List Value}(h:IntsAre vs ns):Vals (ns.map V.int) vs:=by
 induction h with
 | nil=>exact .nil
 | cons n t _ ih=>exact .cons ⟨t,rfl⟩ ih
def zfy(hc:X.calm=true):zdC X (.type "set") (fun xs H Q=>∃(p:Addr) (ns:List Int),xs=[.ref p]/\SqL X.K H p (ns.map V.int)/\(∀k∈ns,0<=k/\k<8)/\∀l,H l=none->Q (.ref l) (upd H l (.ext (zic X.w l ns)))):=by
 intro pins s σ H xs us Q I r h;obtain ⟨p,ns,rfl,hq,hs,q⟩:=h;obtain ⟨u,rfl,rx⟩:=zfK r;cases rx;obtain ⟨its,rv,pl,hz⟩:=I.list hq;refine zkR (I.ok.hd hc) pl.isList (by simpa using zdI rv) hs fun h' tk S kp=>?_
 refine ⟨.ref s.heap.objs.size,_,I.laid (t':=tk) (o:=.ext (zic X.w s.heap.objs.size ns)) kp (yal _) ?_,rfl,q _ (I.hok.fresh (yal _))⟩;refine ⟨S,?_,fun h1 h2 x k=>ST.ISet.keep x k⟩;obtain ⟨o,_,_,_,e,_⟩:=S.ex;exact ⟨o,e⟩
def zew(hc:X.calm=true):zdC X (.builtin "sorted") (fun xs H Q=>∃(a:Addr) (ns:List Int),xs=[.ref a]/\H a=some (.ext (zic X.w a ns))/\∀l,H l=none->Q (.ref l) (upd H l (.lst ((ST.zad ns).map V.int)))):=by
 intro pins s σ H xs us Q I r h;obtain ⟨a,ns,rfl,ha,q⟩:=h;obtain ⟨u,rfl,rx⟩:=zfK r;cases rx;obtain ⟨S,_⟩:=I.hok a _ ha;refine ST.zil (I.ok.hd hc) S fun hm h' tk e vs k1 k2 hg hi=>?_
 have I1:=I.kept k1 (t':=tk);refine ⟨.ref hm.objs.size,_,I1.laid (h':=h') (t':=tk) (o:=.lst ((ST.zad ns).map V.int)) k2 (yal _) (show zba X.prog X.w _ h' _ (.lst _) from ⟨?_,vs,e,zfI hi,hg⟩),rfl,q _ (I1.hok.fresh (yal _))⟩;rw [yaf];exact yao ST.zaA (by decide)
end
end L2
namespace S2
open PySem PySem.Spec PyProof.Rows L2
noncomputable def zgI:D->Option D | .lst l=>(zbS l).bind fun ns=>if ns.all (fun k=>decide (0<=k/\k<8)) then some (.lst ((ST.zad ns).map D.int)) else none | _=>none
section
variable{X:Cx}{cl:Cf}{E:St->XK}{e:Expr}{f:Fe}{pos:Pos}
theorem zfU{w:Wd}:∀{l:List Int},Shds cl w (l.map V.int) (l.map D.int)
 | []=>.nil
 | i::l=>.cons (.int i) (zfU (l:=l))
def zn2{p p2 pos2:Pos}(hc:X.calm=true)(hK:X.K=cl.K)(hg:Gl X "sorted")(hm:X.mg "sorted" = none)(hg2:Gl X "set")(hm2:X.mg "set" = none)(he:PE X e (tE cl E f))(hs:starEach [e] X.env=[(false,eval e X.env)]) :
  PE X (.Call (.Name "sorted" p) [.Call (.Name "set" p2) [e] [] pos2] [] pos) (tN cl E (eUn zgI f)):=by
 refine PE.imp (zdY (zew hc) hg hm (by decide +kernel) (zbZ (zd9 (zfy hc) hg2 hm2 (by decide +kernel) (zcf he zeG hs) (he:=hs) (hpl:=rfl)) zea)) ?_;rintro σ H Q ⟨B,w,ρ,S,rfl,R,q⟩;refine ⟨B,w,ρ,S,rfl,R,?_⟩;unfold eUn at q
 cases hf:f ρ S with
 | bad=>rw [hf] at q;exact q.elim
 | exc c S1=>rw [hf] at q;simp only [zae,hf,Out.bind];exact q
 | ok d S1 =>
  rw [hf] at q;simp only [zae,hf,Out.bind];intro vs w1 R1 F1 sh;dsimp only [Out.bind] at q
  cases d with
  | lst l =>
   cases hk:zbS l with
   | none=>simp [zgI,hk,Out.of] at q
   | some ns =>
    by_cases h8:ns.all (fun k=>decide (0<=k/\k<8))=true
    ·simp only [zgI,hk,Option.bind,h8,ybP] at q
     cases sh with
     | cons h1 hn =>
      cases hn
      cases h1 with
      | lst ep k r =>
       have er:=zgg r hk;subst er;refine ⟨_,ns,rfl,SqL.of ep,fun k hk=>yah (ybf.mp h8 k hk),fun l hl=>⟨l,ns,rfl,zat,fun l2 hl2=>?_⟩⟩;exact q l2 _ (w1.add l (.ext (zic X.w l ns))) (R1.grow (zaq hl _)) (F1.trans (zaq hl _).fut) hl2 (.lst zfU)
    ·rw [Bool.not_eq_true] at h8;simp only [zgI,hk,Option.bind,h8,yaD,yby] at q;exact q.elim
  | _=>exact q.elim
end
end S2
namespace PySem
open Sem (wp)
namespace F
end F
section
variable{prog:Program}{w:World}{A:Around}{E:Z5}{s:Shared}{a:Addr}{o:Obj}
end
namespace F
end F
end PySem
namespace ST
open PySem PySem.Spec PyProof.Rows
section
variable{prog:Program}{w:World}{K:Type}[DecidableEq K]{knd:KeyKind prog w K}{A:Around}{R:Result->Shared->Prop}{I:Addr}{fp wr:List Addr}{G:Array GenState->Array GenState->Prop}{n:Nat}{P:Nat->Value->Prop}{St:Nat->Shared->Prop}
end
end ST
namespace PySem
section
variable{prog:Program}{w:World}{K:Type}[DecidableEq K]{knd:KeyKind prog w K}{A:Around}{E:Z5}{s:Shared}
end
end PySem
namespace L2
open PySem PySem.Spec PyProof.Rows
section
variable{κ:Type}[DecidableEq κ]
def KV.val{kvs:List (κ×V)}{vs:List (κ×Value)}(r:KV kvs vs)(k:κ):ziO (zlc kvs k) (valueAt vs k):=by
 unfold KV at r
 induction r with
 | nil=>exact True.intro
 | @cons p q ps qs h t ih =>
  obtain ⟨h1,h2⟩:=h
  by_cases e:p.1=k
  ·have e':q.1=k:=h1.symm.trans e
   have b:valueAt (q::qs) k=some q.2:=by simp [valueAt,ybx,e']
   rw [zhn e,b];exact h2
  ·have e':¬ q.1=k:=fun z=>e (h1.trans z)
   have b:valueAt (q::qs) k=valueAt qs k:=by simp [valueAt,ybx,e']
   rw [zho e,b];exact ih
theorem KV.any{kvs:List (κ×V)}{vs:List (κ×Value)}(r:KV kvs vs)(k:κ):(kvs.any fun kv=>decide (kv.1=k))=vs.any fun kv=>decide (kv.1=k):=by
 unfold KV at r
 induction r with
 | nil=>rfl
 | cons h t ih=>rw [List.any_cons,List.any_cons,ih,h.1]
def KV.repl{kvs:List (κ×V)}{vs:List (κ×Value)}(r:KV kvs vs)(k:κ){y:V}{u:Value}(ry:zaJ y u) :
  KV (kvs.map fun kv=>if kv.1=k then (kv.1,y) else kv) (vs.map fun kv=>if kv.1=k then (kv.1,u) else kv):=by
 unfold KV at r ⊢
 induction r with
 | nil=>exact .nil
 | @cons p q ps qs h t ih =>
  rw [yau,yau];refine .cons ?_ ih;obtain ⟨h1,h2⟩:=h
  by_cases e:p.1=k
  ·rw [if_pos e,if_pos (h1.symm.trans e)];exact ⟨h1,ry⟩
  ·rw [if_neg e,if_neg (fun z=>e (h1.trans z))];exact ⟨h1,h2⟩
def KV.put{kvs:List (κ×V)}{vs:List (κ×Value)}(r:KV kvs vs)(k:κ){y:V}{u:Value}(ry:zaJ y u):KV (zlr kvs k y) (stored vs k u):=by
 unfold zlr stored;rw [r.any k]
 by_cases e:(vs.any fun kv=>decide (kv.1=k))=true
 ·rw [if_pos e,if_pos e];exact r.repl k ry
 ·rw [if_neg e,if_neg e];exact Paired.snoc r ⟨rfl,ry⟩
end
section
variable{P:Program}{w:World}{H:Hp}{h:Heap}{a:Addr}
def zkG{kvs:List (Key×V)}(ok:HOk P w H h)(e:Rd H a (.dK kvs)):kvs.length<=sizeLine/\(a == sysModules)=false/\∃vs,KV kvs vs/\h.DictOf (zb1 P w) a vs :=
 show zba P w H h a (.dK kvs) from ztw ok e
end
end L2
namespace L2
open PySem PySem.Spec PyProof.Rows
section
variable{X:Cx}
noncomputable def zpY(td ty tx:TE):TE:=fun σ H Q=>td σ H fun x H1=>∃a kvs,x=.ref a/\H1 a=some (.dK kvs)/\ty σ H1 fun y H2=>tx σ H2 fun z H3=>∃k,y=kV k/\H3 a=some (.dK kvs)/\Q ((zlc kvs k).getD z) H3
def zlH{o e f:Expr}{apos cpos:Pos}{td ty tx:TE}(ho:PE X o td)(he:PE X e ty)(hf:PE X f tx)(m:M2 X o "get" apos e f cpos):PE X (.Call (.Attribute o "get" apos) [e,f] [] cpos) (zpY td ty tx):=by
 intro pins s σ H Q I h;refine wpAny_Call_method m.base m.few m.line PySem.F.plainAttrs_dict PySem.F.slot_dict_get PySem.F.type_dict_get (thn (ho pins s σ H _ I h) fun u s1 ⟨x,H1,I1,rx,a,kvs,ex,d,q1⟩=>?_);subst ex;obtain rfl:u=Value.ref a:=rx;obtain ⟨_,_,vs,_,dd⟩:=zkG I1.hok (.inl d);refine ⟨dd.typeIs,fun b q=>?_,?_⟩
 ·cases q;obtain ⟨ob,_,_,h1,h2,_⟩:=dd;exact ⟨ob,h1,h2.2.1⟩
 rw [m.trees]
 refine ycl rfl (ycx (ycL (thn (he pins s1 σ H1 _ I1 q1) fun iv s2 ⟨y,H2,I2,ry,q2⟩ =>
  ycL (thn (hf pins s2 σ H2 _ I2 q2) fun fv s3 ⟨z,H3,I3,rz,k,ey,d3,q3⟩=>Calls.spliced_nil ?_))))
 subst ey;obtain ⟨z',hd,vs3,rel,dd3⟩:=zkG I3.hok (.inl d3);exact call_meetsIn PySem.F.slot_dict_get dd3.typeIs PySem.F.entry_dict_get (PySem.F.args_dict_get_3 _ _ _) (meets_dict_get_default (zb1 X.prog X.w) a (zrB ry) hd fv) ⟨_,dd3.mapOf,_,_,I3.tok _,(rel.val k).getD rz,q3⟩
end
end L2
namespace S2
open PySem PySem.Spec PyProof.Rows L2
section
variable{X:Cx}{cl:Cf}{E:St->XK}{e a b:Expr}{f g h:Fe}
end
end S2
namespace L2
open PySem PySem.Spec PyProof.Rows
section
variable{X:Cx}{pins:Z3}{σ:St}{s:Shared}{a b:Addr}{E:Z5}
end
end L2
namespace S2
open PySem PySem.Spec PyProof.Rows L2
def obs{α β:Type}{o:Option α}{f:α->Option β}{b:β}(h:o.bind f=some b):∃a,o=some a/\f a=some b:=by
 cases o with
 | none=>cases h
 | some a=>exact ⟨a,rfl,h⟩
section
variable{X:Cx}{cl:Cf}{E:St->XK}{ek ez:Expr}{fk fz:Fe}
end
end S2
namespace ST
open PySem PySem.Spec PySem.W PyProof.Rows
section
variable{prog:Program}{w:World}{A:Around}{E:Z5}{s:Shared}
theorem zdM{h h':Heap}(k:∀b o,h.get? b=some o->o.cls=.type "tuple" -> h'.get? b=some o):∀{vs fs:List Value},KatTups h vs fs->KatTups h' vs fs
 | [],[],_=>trivial
 | _::_,_::_,t=>by
  obtain ⟨⟨a,o,xs,n,e,ho,hc,hd,hf⟩,t⟩:=t;exact ⟨⟨a,o,xs,n,e,k a o ho hc,hc,hd,hf⟩,zdM k t⟩
def zjc{a:Addr}{vs fs:List Value}{n:Nat}{p:Array Nat}{P:PySem.Fin->Shared->Prop}(ho:s.heap.get? a=some (seqObj "list" vs.toArray n))(h2:2<=vs.length)(h64:vs.length<64)(t:KatTups s.heap vs fs)(hn:0<fs.length)(hf:∀v∈fs,∃i t,v=.int i t)
  (h:∀(s':Shared) (G:Array Nat->Shared->Prop),(∀b o,s.heap.get? b=some o->o.cls=.type "tuple" -> s'.heap.get? b=some o)->G p s'->(kas_sort vs.length).kasWp (kas_ask prog w A (tuples' true) vs) G s')
  (hP:P (.done (.ret .none)) { s with heap:=sortedHeap s.heap a vs (List.toArray (p.toList.map fun i=>vs.getD i Value.none)) }) :
  wpAny (model prog w) A (Builtin.«list.sort» ⟨[.ref a],[]⟩) P E s:=by
 rw [list_sort_plain];have ha:a<s.heap.objs.size:=yai ho;refine yaa (listItems_at ho rfl ?_);refine yaa (yc4 ho rfl ?_ (by rw [yag,ybO];omega) (yaW _));obtain ⟨e1,ho1⟩:∃e1,(s.heap.update a (Obj.mapSeq fun _=>#[])).get? a=some (seqObj "list" #[] e1):=⟨_,get?_update_seq ho (fun _=>#[])⟩;refine yaa (seqEpoch_at ho1 rfl ?_);refine yaa (ycs ?_ (by show vs.length<=_;rw [ybO];omega));refine yaa (yc3 ?_ (yaW _));refine ya5 ?_;have ho6:(((s.heap.update a (Obj.mapSeq fun _=>#[])).push (seqObj "tuple" vs.toArray 0)).push (seqObj "list" #[] 0)).get? a=some (seqObj "list" #[] e1):=yae _ (yae _ ho1)
 have kp:∀b o,s.heap.get? b=some o->o.cls=.type "tuple" -> (((s.heap.update a (Obj.mapSeq fun _=>#[])).push (seqObj "tuple" vs.toArray 0)).push (seqObj "list" #[] 0)).get? b=some o:=by
  intro b o hb hc
  have hne:b≠a:=fun z=>by
   subst z;rw [ho] at hb;cases hb;exact absurd (Value.type.inj hc) (by decide)
  exact yae _ (yae _ ((Heap.SameBut.update s.heap a _).2 b hne |>.trans hb))
 show wpAny (model prog w) A _ P E { s with heap:=((s.heap.update a (Obj.mapSeq fun _=>#[])).push (seqObj "tuple" vs.toArray 0)).push (seqObj "list" #[] 0) };dsimp only
 have hn2:¬ vs.toArray.size<2:=by rw [yag];omega
 rw [if_neg hn2,if_neg hn2];refine yaa (kat_kind (fs:=fs) (T:=.type "int") (zdM kp t) hn (fun v hv=>?_) (by decide) ?_)
 ·obtain ⟨i,tk,rfl⟩:=hf v hv;exact .now
 refine yaa (ybt (kat_run (Q:=fun st' s'=>s'={ s with heap:=((s.heap.update a (Obj.mapSeq fun _=>#[])).push (seqObj "tuple" vs.toArray 0)).push (seqObj "list" #[] 0) }/\p.size=vs.length/\arrOf st'=p.map (kas_item (vs.toArray.zip vs.toArray))/\failedOf st'=none)
  (G:=fun q s'=>q=p/\s'={ s with heap:=((s.heap.update a (Obj.mapSeq fun _=>#[])).push (seqObj "tuple" vs.toArray 0)).push (seqObj "list" #[] 0) }) rfl h2 h64 (fun p' st' s' a1 a2 a3 a4=>?_) (h _ _ kp ⟨rfl,rfl⟩)) ?_ fun _ _ e=>e)
 ·obtain ⟨rfl,rfl⟩:=a4;exact ⟨rfl,a1,a2,a3⟩
 rintro ⟨⟨⟩,st'⟩ s' ⟨rfl,hp,har,hfl⟩;dsimp only;have hout:=kat_snds rfl har
 have hsz:(List.toArray (p.toList.map fun i=>vs.getD i Value.none)).size=vs.length:=by rw [yag,yaf,yaB,hp]
 rw [hout];refine yaa (seqEpoch_at ho6 rfl ?_);refine yaa (yc4 ho6 rfl ?_ (yaW _) (yao (ycK hsz) (by rw [ybO];omega)));rw [hfl];simp only [bne_self_eq_false,yaD,yby];exact yad hP
noncomputable def lxL(a1 a2 b1 b2:Int):Bool:=decide (a1<b1\/(a1=b1/\a2<b2))
def zmN{vs:List Value}{i j:Nat}{x y:Addr}{a1 a2 b1 b2:Int}{t1 t2 u1 u2:Tok}{C:Bool->Shared->Prop}(hi:vs.getD i Value.none=.ref x)(hj:vs.getD j Value.none=.ref y)(hx:s.heap.IsTuple x #[.int a1 t1,.int a2 t2])(hy:s.heap.IsTuple y #[.int b1 u1,.int b2 u2])
  (h:C (lxL a1 a2 b1 b2) s):kas_ask prog w A (tuples' true) vs i j C s:=by
 unfold kas_ask;rw [hi,hj];obtain ⟨ox,ex,_,nx,dx⟩:=hx;obtain ⟨oy,ey,_,ny,dy⟩:=hy;refine kat_lt ex dx ey dy ?_;refine kat_cons (wpAny_eqBool_int ?_)
 by_cases e1:a1=b1
 ·subst e1;rw [ybA];refine kat_yes (kat_cons (wpAny_eqBool_int ?_))
  by_cases e2:a2=b2
  ·subst e2;rw [ybA];refine kat_yes (kat_nil ?_)
   have:lxL a1 a2 a1 a2=decide ((#[Value.int a1 t1,Value.int a2 t2]:Array Value).size<(#[Value.int a1 u1,Value.int a2 u2]:Array Value).size):=by simp [lxL]
   rw [<-this];exact h
  ·rw [beq_false_of_ne e2];refine kat_no (kat_one _ _ (lt_int ?_))
   have:lxL a1 a2 a1 b2=decide (a2<b2):=by simp [lxL]
   rwa [this] at h
 ·rw [beq_false_of_ne e1];refine kat_no (oneLt_int ?_)
  have:lxL a1 a2 b1 b2=decide (a1<b1):=by simp [lxL,e1]
  rwa [this] at h
end
end ST
namespace L2
open PySem PySem.Spec PySem.W PyProof.Rows ST
section
variable{X:Cx}
end
end L2
namespace S2
open PySem PySem.Spec PyProof.Rows L2 ST
section
variable{X:Cx}{cl:Cf}{E:St->XK}{a b:Expr}{f g:Fe}
end
end S2
namespace ST
open PySem PySem.Spec PySem.W PyProof.Rows
noncomputable def zwP(ks:List Nat)(i j:Nat):Option Bool:=(ks[i]?).bind fun a=>(ks[j]?).map fun b=>decide (a<b)
noncomputable def zm0{α:Type}(ks:List Nat):KasT α->Option α
 | .ret a=>some a
 | .ask i j k=>match zwP ks i j with | some true=>zm0 ks (k true) | some false=>zm0 ks (k false) | none=>none
noncomputable def zcN:List Nat:=[0,1,2,3,4]
noncomputable def zup(ks:List Nat):Bool:=match zm0 ks (kas_sort ks.length) with
 | some p=>decide (p.toList.map (fun i=>ks.getD i 9)=zcN.filter fun x=>decide (x∈ks))
 | none=>false
noncomputable def zuG:Nat->List (List Nat) | 0=>[[]] | n+1=>zcN.flatMap fun a=>(zuG n).map (a::·)
theorem zh8:∀{ks:List Nat},(∀k∈ks,k<5)->ks∈zuG ks.length
 | [],_=>.head _
 | a::ks,h=>by
  show _∈zcN.flatMap _;rw [List.mem_flatMap];refine ⟨a,?_,yaq.mpr ⟨ks,zh8 fun k hk=>h k (.tail _ hk),rfl⟩⟩;have:=h a (.head _)
  match a,this with
  | 0,_=>decide
  | 1,_=>decide
  | 2,_=>decide
  | 3,_=>decide
  | 4,_=>decide
def zpe:∀n∈[2,3,4,5],∀ks∈zuG n,(!decide ks.Nodup||zup ks)=true:=by decide +kernel
def zr4{ks:List Nat}(h:∀k∈ks,k<5)(nd:ks.Nodup)(h2:2<=ks.length)(h5:ks.length<=5):zup ks=true:=by
 have hn:ks.length∈[2,3,4,5]:=by
  simp only [yap,yaJ,ybF];omega
 have:=zpe _ hn _ (zh8 h);rwa [yaQ nd] at this
theorem zgS{α:Type}{cmp:Nat->Nat->(Bool->Shared->Prop)->Shared->Prop}{ks:List Nat}{s:Shared}{Q:α->Shared->Prop}(hc:∀i j a b C,ks[i]?=some a->ks[j]?=some b->C (decide (a<b)) s->cmp i j C s):∀(t:KasT α) (p:α),zm0 ks t=some p->Q p s->t.kasWp cmp Q s
 | .ret a,p,h,q=>by cases h;exact q
 | .ask i j k,p,h,q=>by
  show cmp i j (fun b s'=>(k b).kasWp cmp Q s') s;unfold zm0 at h;unfold zwP at h
  cases ei:ks[i]? with
  | none=>rw [ei] at h;cases h
  | some a =>
   cases ej:ks[j]? with
   | none=>rw [ei,ej] at h;cases h
   | some b =>
    rw [ei,ej] at h;refine hc i j a b _ ei ej ?_;have h':(match some (decide (a<b)) with | some true=>zm0 ks (k true) | some false=>zm0 ks (k false) | none=>none)=some p:=h
    cases hd:decide (a<b) with
    | true=>rw [hd] at h';exact zgS hc (k true) p h' q
    | false=>rw [hd] at h';exact zgS hc (k false) p h' q
section
variable{prog:Program}{w:World}{A:Around}{E:Z5}{s:Shared}
def zli{a:Addr}{vs:List Value}{n:Nat}{P:PySem.Fin->Shared->Prop}(ho:s.heap.get? a=some (seqObj "list" vs.toArray n))(h2:vs.length<2)
  (hP:P (.done (.ret .none)) { s with heap:=sortedHeap s.heap a vs vs.toArray }):wpAny (model prog w) A (Builtin.«list.sort» ⟨[.ref a],[]⟩) P E s:=by
 rw [list_sort_plain];refine yaa (listItems_at ho rfl ?_);refine yaa (yc4 ho rfl ?_ (by rw [yag,ybO];omega) (yaW _));obtain ⟨e1,ho1⟩:∃e1,(s.heap.update a (Obj.mapSeq fun _=>#[])).get? a=some (seqObj "list" #[] e1):=⟨_,get?_update_seq ho (fun _=>#[])⟩;refine yaa (seqEpoch_at ho1 rfl ?_);refine yaa (ycs ?_ (by show vs.length<=_;rw [ybO];omega));refine yaa (yc3 ?_ (yaW _));refine ya5 ?_;have ho6:(((s.heap.update a (Obj.mapSeq fun _=>#[])).push (seqObj "tuple" vs.toArray 0)).push (seqObj "list" #[] 0)).get? a=some (seqObj "list" #[] e1):=yae _ (yae _ ho1);show wpAny (model prog w) A _ P E { s with heap:=((s.heap.update a (Obj.mapSeq fun _=>#[])).push (seqObj "tuple" vs.toArray 0)).push (seqObj "list" #[] 0) };dsimp only
 have hn2:vs.toArray.size<2:=by rw [yag];omega
 rw [if_pos hn2,if_pos hn2];refine yaa (yad ?_);rw [StateT.run_pure];refine yaa (yad ?_);dsimp only;refine yaa (seqEpoch_at ho6 rfl ?_)
 have em:(arrOf (SortSt.mk' general' (vs.toArray.zip vs.toArray) #[] 7 none)).map (·.2)=vs.toArray:=by
  show (vs.toArray.zip vs.toArray).map (·.2)=vs.toArray;apply Array.toList_inj.mp;simp;exact List.map_snd_zip (yal _)
 refine yaa (yc4 ho6 rfl ?_ (yaW _) (by show ((arrOf (SortSt.mk' general' (vs.toArray.zip vs.toArray) #[] 7 none)).map (·.2)).size<=_;rw [em,yag,ybO];omega));simp only [bne_self_eq_false,yaD,yby];refine yad ?_;have:=hP;rwa [<-em] at this
end
end ST
namespace ST
open PySem PySem.Spec PySem.W PyProof.Rows
section
variable{prog:Program}{w:World}{K:Type}[DecidableEq K]{knd:KeyKind prog w K}{A:Around}{E:Z5}{s:Shared}
noncomputable def zeW(h:Heap)(a:Addr)(n:Nat)(v:Int):Prop:=∃t u,h.get? a=some { cls:=.type "tuple",data:=.seq #[.int (n:Int) t,.int v u] }
theorem zgk{h:Heap}:∀{as:List Addr} {kn:List Nat} {vn:List Int},as.length=kn.length->(∀(j:Nat) (a:Addr),as[j]?=some a->∃n v,kn[j]?=some n/\vn[j]?=some v/\zeW h a n v)->∃fs,KatTups h (as.map Value.ref) fs/\fs.length=as.length/\∀v∈fs,∃i t,v=.int i t
 | [],_,_,_,_=>⟨[],KatTups.nil,rfl,fun v hv=>nomatch hv⟩
 | a::as,[],_,hl,_=>by cases hl
 | a::as,n::kn,vn,hl,hp=>by
  obtain ⟨n',v,_,_,t,u,e⟩:=hp 0 a rfl
  obtain ⟨fs,h1,h2,h3⟩:=zgk (as:=as) (kn:=kn) (vn:=vn.tail) (Nat.succ.inj hl) (fun j b hb=>by
   obtain ⟨n,v,e1,e2,e3⟩:=hp (j+1) b hb
   exact ⟨n,v,e1,by rw [List.getElem?_tail];exact e2,e3⟩)
  refine ⟨.int n' t::fs,KatTups.cons e rfl rfl rfl h1,congrArg Nat.succ h2,fun v hv=>?_⟩
  rcases yap.mp hv with rfl | hv
  ·exact ⟨_,_,rfl⟩
  ·exact h3 v hv
def zim{B:Addr}{as:List Addr}{kn:List Nat}{vn:List Int}{n:Nat}{P:PySem.Fin->Shared->Prop}(ho:s.heap.get? B=some (seqObj "list" (as.map Value.ref).toArray n))(hl:as.length=kn.length)(hp:∀(j:Nat) (a:Addr),as[j]?=some a->∃n v,kn[j]?=some n/\vn[j]?=some v/\zeW s.heap a n v)
  (nd:kn.Nodup) (h5:∀k∈kn,k<5) (hl5:kn.length<=5)
  (hP:∀p:List Nat,p.map (fun i=>kn.getD i 9)=zcN.filter (fun x=>decide (x∈kn))->(∀i∈p,i<kn.length)->P (.done (.ret .none)) { s with heap:=sortedHeap s.heap B (as.map Value.ref) (List.toArray (p.map fun i=>(as.map Value.ref).getD i Value.none)) }) :
  wpAny (model prog w) A (Builtin.«list.sort» ⟨[.ref B],[]⟩) P E s:=by
 have lin:∀p:List Nat,p.map (fun i=>kn.getD i 9)=zcN.filter (fun x=>decide (x∈kn))->∀i∈p,i<kn.length:=by
  intro p hp i hi;have:kn.getD i 9∈zcN.filter (fun x=>decide (x∈kn)):=hp ▸ yaq.mpr ⟨i,hi,rfl⟩
  have h9:kn.getD i 9≠9:=fun z=>by
   rw [z] at this;exact absurd (ybc.mp this).1 (by decide)
  rcases ycS i kn.length with h | h
  ·exact h
  ·exact absurd (by rw [yat,yaV h];rfl) h9
 by_cases h2:2<=kn.length
 ·have hc:=zr4 h5 nd h2 hl5;unfold zup at hc
  cases hr:zm0 kn (kas_sort kn.length) with
  | none=>rw [hr] at hc;cases hc
  | some p =>
   rw [hr] at hc;have hc:p.toList.map (fun i=>kn.getD i 9)=zcN.filter (fun x=>decide (x∈kn)):=yah hc;obtain ⟨fs,t1,t2,t3⟩:=zgk hl hp;refine zjc (fs:=fs) (p:=p) ho (by rw [yaf,hl];exact h2) (by rw [yaf,hl];omega) t1 (by omega) t3 (fun s' G k hg=>?_) (hP p.toList hc (lin _ hc));rw [yaf,hl];refine zgS (fun i j a b C ei ej hC=>?_) _ p hr hg
   have li:i<as.length:=by rw [hl];exact (yan.mp ei).1
   have lj:j<as.length:=by rw [hl];exact (yan.mp ej).1
   obtain ⟨n1,v1,q1,q2,t,u,q3⟩:=hp i as[i] (yac li);obtain ⟨n2,v2,r1,r2,t',u',r3⟩:=hp j as[j] (yac lj);rw [ei] at q1;cases q1;rw [ej] at r1;cases r1;refine zmN (x:=as[i]) (y:=as[j]) (by rw [yat,yas,yac li];rfl) (by rw [yat,yas,yac lj];rfl) ⟨_,k _ _ q3 rfl,rfl,_,rfl⟩ ⟨_,k _ _ r3 rfl,rfl,_,rfl⟩ ?_
   have:lxL a v1 b v2=decide (a<b):=by
    unfold lxL;rw [yb4];constructor
    ·rintro (h | ⟨h,h'⟩)
     ·omega
     ·have hab:a=b:=by omega
      subst hab
      have hij:i=j:=by
       obtain ⟨x1,x2⟩:=yan.mp ei;obtain ⟨y1,y2⟩:=yan.mp ej;have np:=yb0.mp nd
       rcases Nat.lt_trichotomy i j with hlt | he | hgt
       ·exact absurd (x2.trans y2.symm) (np i j x1 y1 hlt)
       ·exact he
       ·exact absurd (y2.trans x2.symm) (np j i y1 x1 hgt)
      subst hij;rw [q2] at r2;cases r2;omega
    ·intro h;left;omega
   rw [this];exact hC
 ·refine zli ho (by rw [yaf,hl];omega) ?_
  have hlen:kn.length=0\/kn.length=1:=by omega
  rcases hlen with h0 | h1
  ·have:kn=[]:=ya8 h0;subst this;have ea:as=[]:=ya8 hl;subst ea;exact hP [] rfl (fun i hi=>nomatch hi)
  ·match kn,as,h1,hl with
   | [n],[a],_,_ =>
    have hn:=h5 n (.head _);refine hP [0] ?_ (fun i hi=>by rcases yaU.mp hi with rfl;exact Nat.one_pos)
    match n,hn with
    | 0,_=>rfl
    | 1,_=>rfl
    | 2,_=>rfl
    | 3,_=>rfl
    | 4,_=>rfl
def zfS{r d:Addr}{kvs:List (K×Value)}{ep:Nat}{kn:List Nat}{vn:List Int}{Q:Z5}(hh:A.handled=none)(hv:s.heap.IsItemsView r d)(hm:s.heap.DictAt knd d kvs ep)(hl:kn.length=kvs.length)
  (hk:∀(j:Nat) (k:K) (x:Value),kvs[j]?=some (k,x)->∃n v u,kn[j]?=some n/\vn[j]?=some v/\x=.int v u/\∀key,knd.is k key=true->∃t,key=.int ((n:Nat):Int) t)
  (nd:kn.Nodup) (h5:∀k∈kn,k<5) (hl5:kn.length<=5)
  (hQ:∀(hm h':Heap) (tk e:Nat) (as:List Addr) (p:List Nat),(∀b o,s.heap.get? b=some o->hm.get? b=some o)->(∀b o,hm.get? b=some o->h'.get? b=some o)->as.length=kn.length->(∀a∈as,s.heap.objs.size<a)->(∀(j:Nat) (a:Addr),as[j]?=some a->∃n v,kn[j]?=some n/\vn[j]?=some v/\zeW hm a n v) →
   as.Pairwise (· < ·)->p.map (fun i=>kn.getD i 9)=zcN.filter (fun x=>decide (x∈kn))->(∀i∈p,i<kn.length)->h'.get? hm.objs.size=some (seqObj "list" (List.toArray (p.map fun i=>(as.map Value.ref).getD i Value.none)) e)->Q (.ref hm.objs.size) { s with heap:=h',toks:=tk }) :
  wpAny (model prog w) A (call (.builtin "sorted") [.ref r]) Q E s:=by
 refine Calls.call_function_entry kind_sorted plain_sorted entry_sorted (args_sorted1 _) ?_;unfold Builtin.«sorted»;refine yaa (m:=checkCount "sorted" 1 1 _) (yad ?_)
 have hz:kvs.length<=sizeLine:=by rw [<-hl,ybO];omega
 refine yaa (kdx_collect (A:=A.in1) (knd:=knd) (kvs:=kvs) (ep:=ep) hh hv hm hz fun h' tk as hkp hal hG=>?_);refine yaa (yc3 ?_ (by rw [yaf,hal];exact hz));have hoL:(h'.push (seqObj "list" (as.map Value.ref).toArray 0)).get? h'.objs.size=some (seqObj "list" (as.map Value.ref).toArray 0):=yam _ rfl
 have hp:∀(j:Nat) (a:Addr),as[j]?=some a->∃n v,kn[j]?=some n/\vn[j]?=some v/\zeW h' a n v:=by
  intro j a ha;obtain ⟨key,k,x,e1,e2,e3⟩:=hG.pairs j a ha;obtain ⟨n,v,u,q1,q2,rfl,q4⟩:=hk j k x e1;obtain ⟨t,rfl⟩:=q4 key e2;exact ⟨n,v,q1,q2,t,u,e3⟩
 refine yaa (ya5 (yaN slot_list_sort ⟨_,hoL,rfl⟩ entry_list_sort (zim (s:={ s with heap:=h'.push (seqObj "list" (as.map Value.ref).toArray 0),toks:=tk }) (kn:=kn) (vn:=vn) hoL (hal.trans hl.symm) (fun j a ha=>?_) nd h5 hl5 fun p p1 p2=>⟨_,rfl,?_⟩) (args_list_sort _)))
 ·obtain ⟨n,v,q1,q2,t,u,e⟩:=hp j a ha;exact ⟨n,v,q1,q2,t,u,yae _ e⟩
 refine yad ⟨_,rfl,?_⟩;obtain ⟨e,he⟩:=sortedHeap_at (out:=List.toArray (p.map fun i=>(as.map Value.ref).getD i Value.none)) hoL
 have old:∀b o,h'.get? b=some o->(sortedHeap (h'.push (seqObj "list" (as.map Value.ref).toArray 0)) h'.objs.size (as.map Value.ref) (List.toArray (p.map fun i=>(as.map Value.ref).getD i Value.none))).get? b=some o:=fun b o hb=>by
  have hl':b<h'.objs.size:=yai hb;rw [sortedHeap_old (yar hl') (by rw [size_push'];exact ybC hl')];exact yae _ hb
 exact hQ h' _ tk e as p hkp old (hal.trans hl.symm) hG.above hp hG.rise p1 p2 he
end
end ST
namespace L2
open PySem PySem.Spec PySem.W PyProof.Rows ST
section
variable{X:Cx}{pins:Z3}{σ:St}{s:Shared}
noncomputable def zsi(H:Hp):List (Addr×Nat×Int)->Hp | []=>H | x::l=>zsi (upd H x.1 (.tup [.int (x.2.1:Int),.int x.2.2])) l
theorem zfN{n0:Nat}(h1:X.s₀.heap.objs.size<=n0)(h2:X.env.locals<n0)(h3:∀x c,X.env.cells.lookup x=some c->c<n0)(h4:∀p∈X.pn++pins,p.1<n0):∀(l:List (Addr×Nat×Int)) (H:Hp),Inv X pins σ H s->(∀x∈l,n0<=x.1/\H x.1=none/\zeW s.heap x.1 x.2.1 x.2.2)->(l.map (·.1)).Nodup->Inv X pins σ (zsi H l) s
 | [],H,I,_,_=>I
 | x::l,H,I,hx,nd=>by
  rw [yau,ybk] at nd;obtain ⟨e1,e2,t,u,e3⟩:=hx x (.head _);refine zfN h1 h2 h3 h4 l _ (I.track e2 (yao h1 e1) (yaX (yak h2 e1)) (fun z c q=>yar (yak (h3 z c q) e1)) (fun p hp=>yar (yak (h4 p hp) e1)) ?_) (fun y hy=>?_) nd.2
  ·exact ⟨by show (2:Nat)<=_;decide,[.int (x.2.1:Int) t,.int x.2.2 u],.cons ⟨t,rfl⟩ (.cons ⟨u,rfl⟩ .nil),_,e3,rfl,_,rfl⟩
  ·obtain ⟨f1,f2,f3⟩:=hx y (.tail _ hy);refine ⟨f1,?_,f3⟩;rw [zag (fun z=>nd.1 (yaq.mpr ⟨y,hy,z⟩))];exact f2
noncomputable def zhh(l a:Addr)(h:Heap):Prop:=h.IsItemsView l a
noncomputable def zpW(i:Nat):TE:=fun σ H Q=>∃(a:Addr) (kvs:List (Key×V)),σ[i]?=some (some (.ref a))/\H a=some (.dK kvs)/\∀l,H l=none->Q (.ref l) (upd H l (.ext (zhh l a)))
def zlE{i:Nat}{x:Str}{p ap cp:Pos}(hn:PE X (.Name x p) (zvv i))(hb:attributeBase (.Name x p) "items" X.env (eval (.Name x p) X.env)=eval (.Name x p) X.env)(hln:(ap.endLine == cp.line)=true):PE X (.Call (.Attribute (.Name x p) "items" ap) [] [] cp) (zpW i):=by
 intro pins s σ H Q I h;obtain ⟨a,kvs,e1,e2,q⟩:=h;refine wpAny_Call_method hb rfl hln PySem.F.plainAttrs_dict PySem.F.slot_dict_items PySem.F.type_dict_items (thn (hn pins s σ H (fun v H1=>v=.ref a/\H1=H) I ⟨_,e1,rfl,rfl⟩) fun u s1 ⟨y,H1,I1,rx,ey,eH⟩=>?_);subst ey eH;obtain rfl:u=Value.ref a:=rx;obtain ⟨_,hd,vs,_,dd⟩:=zkG I1.hok (.inl e2);refine ⟨dd.typeIs,fun b q=>?_,?_⟩
 ·cases q;obtain ⟨ob,_,_,h1,h2,_⟩:=dd;exact ⟨ob,h1,h2.2.1⟩
 refine ycl rfl (PySem.evalArgs_none ?_);refine call_meetsIn PySem.F.slot_dict_items dd.typeIs PySem.F.entry_dict_items (PySem.F.args_dict_items_1 _) (meets_dict_items (zb1 X.prog X.w) a hd) ⟨⟨vs,dd⟩,?_⟩;refine ⟨.ref s1.heap.objs.size,_,I1.laid (t':=s1.toks) (o:=.ext (zhh s1.heap.objs.size a)) (fun _ _ e=>yae _ e) (yal _) ?_,rfl,q _ (I1.hok.fresh (yal _))⟩;refine ⟨⟨_,yam _ rfl,rfl,rfl⟩,⟨_,yam _ rfl⟩,fun h1 h2 x k=>?_⟩;obtain ⟨o,ho,r⟩:=x;exact ⟨o,k o ho,r⟩
noncomputable def kvN(ps:List (Nat×Int)):List (Key×V):=ps.map fun x=>(.inl (x.1:Int),.int x.2)
def zma{ps:List (Nat×Int)}{vs:List (Key×Value)}(r:KV (kvN ps) vs):vs.length=ps.length/\∀(j:Nat) (k:Key) (x:Value),vs[j]?=some (k,x)->∃n v u,(ps.map (·.1))[j]?=some n/\(ps.map (·.2))[j]?=some v/\x=.int v u/\k=.inl (n:Int):=by
 unfold KV kvN at r
 induction ps generalizing vs with
 | nil=>cases r;exact ⟨rfl,fun j k x h=>by cases h⟩
 | cons p ps ih =>
  rw [yau] at r
  cases r with
  | @cons a b as bs h t =>
   obtain ⟨l,g⟩:=ih t;refine ⟨congrArg Nat.succ l,fun j k x hj=>?_⟩
   cases j with
   | zero =>
    cases hj;obtain ⟨h1,u,h2⟩:=h;exact ⟨p.1,p.2,u,rfl,rfl,h2,h1.symm⟩
   | succ j=>exact g j k x hj
def zdA(hc:X.calm=true):zdC X (.builtin "sorted") (fun xs H Q=>∃(v a:Addr) (ps:List (Nat×Int)),xs=[.ref v]/\H v=some (.ext (zhh v a))/\H a=some (.dK (kvN ps))/\(ps.map (·.1)).Nodup/\(∀k∈ps.map (·.1),k<5)/\ps.length<=5 ∧
  ∀(as:List Addr) (p:List Nat) (B:Addr),as.length=ps.length->as.Nodup->(∀a∈as,H a=none/\a≠B)->H B=none->p.map (fun i=>(ps.map (·.1)).getD i 9)=zcN.filter (fun x=>decide (x∈ps.map (·.1)))->(∀i∈p,i<ps.length) →
   Q (.ref B) (upd (zsi H (as.zip ps)) B (.lst (p.map fun i=>.ref (as.getD i 0))))):=by
 intro pins s σ H xs us Q I r h;obtain ⟨v,a,ps,rfl,hv,ha,nd,h5,hl5,q⟩:=h;obtain ⟨u,rfl,rx⟩:=zfK r;cases rx;obtain ⟨hvw,_⟩:=I.hok v _ hv;obtain ⟨_,hd,vs,rel,dd⟩:=zkG I.hok (.inl ha);obtain ⟨ep,da⟩:=dd.dictAt;obtain ⟨lv,kv⟩:=zma rel;refine zfS (knd:=zb1 X.prog X.w) (kn:=ps.map (·.1)) (vn:=ps.map (·.2)) (I.ok.hd hc) hvw da (by rw [yaf,lv]) (fun j k x hj=>?_) nd h5 (by rw [yaf];exact hl5) fun hm h' tk e as p k1 k2 al ab pr rise p1 p2 hB=>?_
 ·obtain ⟨n,w,u,e1,e2,e3,rfl⟩:=kv j k x hj
  exact ⟨n,w,u,e1,e2,e3,fun key hk=>by
   rcases zav (show zg1 (.inl (n:Int)) key=true from hk) with ⟨i,t,e,rfl⟩ | ⟨x,t,e,_⟩
   ·cases e;exact ⟨t,rfl⟩
   ·cases e⟩
 ·have al':as.length=ps.length:=by rw [al,yaf]
  have I1:Inv X pins σ H { s with heap:=hm,toks:=tk }:=I.kept k1
  have pz:∀x∈as.zip ps,s.heap.objs.size<=x.1/\H x.1=none/\zeW hm x.1 x.2.1 x.2.2:=by
   intro x hx;obtain ⟨j,hj⟩:=ybX hx;obtain ⟨h1,h2⟩:=List.getElem?_zip_eq_some.mp hj;have hle:=yb6 (ab x.1 (yaZ h1));obtain ⟨n,w,e1,e2,e3⟩:=pr j x.1 h1;rw [yas,h2] at e1 e2;cases e1;cases e2;exact ⟨hle,I.hok.fresh hle,e3⟩
  have ez:(as.zip ps).map (·.1)=as:=List.map_fst_zip (ycK al');have I2:=zfN (n0:=s.heap.objs.size) I.sz I.lt (fun x c e=>by obtain ⟨v,cq⟩:=I.cell x c e;exact cq.lt) (fun p hp=>yai (I.pin p hp).1) (as.zip ps) H I1 pz (by rw [ez];exact List.Pairwise.imp (fun h=>yar h) rise)
  have hin:∀a∈as,a<hm.objs.size:=by
   intro a ha;obtain ⟨j,hj⟩:=ybX ha;obtain ⟨n,w,_,_,t,u,e3⟩:=pr j a hj;exact yai e3
  have q':=q as p hm.objs.size al' (List.Pairwise.imp (fun h=>yar h) rise) (fun a ha=>⟨I.hok.fresh (yb6 (ab a ha)),yar (hin a ha)⟩) (I1.hok.fresh (yal _)) p1 (fun i hi=>by have:=p2 i hi;rwa [yaf] at this);refine ⟨.ref hm.objs.size,_,I2.laid (h':=h') (t':=tk) (o:=.lst (p.map fun i=>.ref (as.getD i 0))) k2 (yal _) ⟨?_,p.map fun i=>(as.map Value.ref).getD i Value.none,e,?_,hB⟩,rfl,q'⟩
  ·have:=congrArg List.length p1;rw [yaf] at this;rw [yaf,this];exact yao (ybn _ _) (by decide)
  ·have go:∀l:List Nat,(∀i∈l,i<as.length)->Vals (l.map fun i=>V.ref (as.getD i 0)) (l.map fun i=>(as.map Value.ref).getD i Value.none):=by
    intro l
    induction l with
    | nil=>intro _;exact .nil
    | cons i l ih =>
     intro hl;refine .cons ?_ (ih fun j hj=>hl j (.tail _ hj));have hi:=hl i (.head _);show (as.map Value.ref).getD i Value.none=Value.ref (as.getD i 0);rw [yat,yat,yas,yac hi];rfl
   exact go p fun i hi=>by have:=p2 i hi;rw [yaf] at this;omega
end
end L2
namespace L2
open PySem PySem.Spec PyProof.Rows
section
variable{X:Cx}{pins:Z3}{σ:St}{s:Shared}{A:Around}{E:Z5}
def zxy{H:Hp}{a:Addr}{kvs:List (Key×V)}{k:Key}{v:V}{u r:Value}{Q:Unit->Shared->Prop}(I:Inv X pins σ H s)(e:H a=some (.dK kvs))(ry:zaJ (kV k) u)(rv:zaJ v r)(l:kvs.length<sizeLine)
  (h:∀s',Inv X pins σ (upd H a (.dK (zlr kvs k v))) s'->Q () s'):wpAny (model X.prog X.w) A (setItem (.ref a) u r) Q E s:=by
 obtain ⟨z,hd,vs,rel,dd⟩:=zkG I.hok (.inl e)
 have hz:vs.length<=sizeLine:=by rw [<-Paired.length rel];exact z
 have hl:(zlr kvs k v).length<=sizeLine:=by have:=zgZ kvs k v;omega
 refine wpAny_setItem_pairs (hsz:=hz) (zrB ry) dd fun h' dd' hs=>h _ ?_
 have he:∃q,h'.get? a=some q:=let ⟨q,_,_,hq,_⟩:=dd';⟨q,hq⟩
 exact zpc I (by rw [e];exact True.intro) hs he ⟨hl,hd,_,rel.put k rv,dd'⟩
noncomputable def zqB(td ty tv:TE):TS:=fun D σ H=>tv σ H fun v H1=>td σ H1 fun x H2=>ty σ H2 fun y H3=>∃(a:Addr) (kvs:List (Key×V)) (k:Key),x=.ref a/\y=kV k/\H3 a=some (.dK kvs)/\kvs.length<sizeLine/\D.nx σ (upd H3 a (.dK (zlr kvs k v)))
def zlu{o i value:Expr}{pos pos':Pos}{td ty tv:TE}(ho:PE X o td)(hi:PE X i ty)(hv:PE X value tv)(hs:swapsWith value (some (.Subscript o i pos')) pos.line X.env=pure false):PS X (.Assign [.Subscript o i pos'] value pos) (zqB td ty tv):=by
 intro pins s σ H D I h;refine wpAny_Assign_Subscript (thn (hv pins s σ H _ I h) fun r s1 ⟨v,H1,I1,rv,q1⟩=>thn (ho pins s1 σ H1 _ I1 q1) fun u s2 ⟨x,H2,I2,rx,q2⟩=>thn (hi pins s2 σ H2 _ I2 q2) fun iv s3 ⟨y,H3,I3,ry,a,kvs,k,ex,ey,ha,hl,q3⟩=>?_) hs;subst ex ey;obtain rfl:u=Value.ref a:=rx;exact zxy I3 ha ry rv hl fun s4 I4=>⟨σ,_,I4,q3⟩
noncomputable def zpX:TE:=fun _ H Q=>∀p,H p=none->Q (.ref p) (upd H p (.dK []))
def zlG{pos:Pos}:PE X (.Dict [] [] pos) zpX:=fun pins s σ H Q I h =>
 wpAny_Dict_empty ⟨.ref s.heap.objs.size,_,I.laid (a:=s.heap.objs.size) (o:=.dK []) (t':=s.toks) (fun _ _ q=>yae _ q) (yal _) ⟨yaW _,beq_false_of_ne (yaX I.big),[],.nil,Heap.DictOf.new s.heap⟩,rfl,h _ (I.hok.fresh (yal _))⟩
end
end L2
namespace S2
open PySem PySem.Spec PyProof.Rows L2
noncomputable def ziQ:List (D×D)->Option (List (Int×Int))
 | []=>some []
 | (.int a,.int b)::ds=>(ziQ ds).map ((a,b)::·)
 | _=>none
theorem zjC:∀{ds:List (D×D)} {ps:List (Int×Int)},ziQ ds=some ps->ds=dsI ps
 | [],ps,h=>by cases h;rfl
 | (.int a,.int b)::ds,ps,h=>by
  cases e:ziQ ds with
  | none=>rw [show ziQ ((.int a,.int b)::ds)=(ziQ ds).map ((a,b)::·) from rfl,e] at h;cases h
  | some qs =>
   rw [show ziQ ((.int a,.int b)::ds)=(ziQ ds).map ((a,b)::·) from rfl,e] at h;cases h;rw [zjC e];rfl
theorem zdX:∀ps:List (Int×Int),ziQ (dsI ps)=some ps
 | []=>rfl
 | p::ps=>by
  show (ziQ (dsI ps)).map _=_;rw [zdX ps];rfl
noncomputable def zmj:D->Option (List (Int×Int)) | .dic ((.non,.non)::ds)=>ziQ ds | _=>none
def zmi{d:D}{ps:List (Int×Int)}(h:zmj d=some ps):d=zcY ps:=by
 unfold zmj at h;split at h
 ·rw [zjC h];rfl
 ·cases h
noncomputable def zeB(i:Nat)(ρ:Env):Option (Bool×List (Int×Int)):=match ρ[i]? with | some (some (o,d))=>(zmj d).map fun ps=>(o,ps) | _=>none
def ze3{i:Nat}{ρ:Env}{o:Bool}{ps:List (Int×Int)}(h:zeB i ρ=some (o,ps)):ρ[i]?=some (some (o,zcY ps)):=by
 unfold zeB at h;split at h
 ·rename_i o' d e
  cases hd:zmj d with
  | none=>rw [hd] at h;cases h
  | some x=>rw [hd] at h;cases h;rw [e,zmi hd]
 ·cases h
noncomputable def zir(ps:List (Int×Int))(k v:Int):List (Int×Int):=if (ps.any fun p=>decide (p.1=k)) then ps.map (fun p=>if p.1=k then (p.1,v) else p) else ps++[(k,v)]
noncomputable def zbK(ps:List (Int×Int))(k:Int):Option Int:=(ps.find? fun p=>decide (p.1=k)).map (·.2)
def zoL{ps:List (Int×Int)}{k v:Int}:kvI (zir ps k v)=zlr (kvI ps) (.inl k) (.int v):=by
 have ea:((kvI ps).any fun kv=>decide (kv.1=(.inl k:Key)))=ps.any fun p=>decide (p.1=k):=by
  unfold kvI;rw [List.any_map];congr 1;funext p;show decide ((.inl p.1:Key)=.inl k)=decide (p.1=k);rw [yb4];exact ⟨fun h=>Sum.inl.inj h,fun h=>by rw [h]⟩
 unfold zir zlr;rw [ea];split
 ·unfold kvI;rw [ybb,ybb];apply yb5;intro p _;show (fun x:Int×Int=>((.inl x.1:Key),V.int x.2)) (if p.1=k then (p.1,v) else p)=if (.inl p.1:Key)=.inl k then ((.inl p.1:Key),V.int v) else (.inl p.1,.int p.2)
  by_cases h:p.1=k
  ·rw [if_pos h,if_pos (by rw [h])]
  ·rw [if_neg h,if_neg (fun z=>h (Sum.inl.inj z))]
 ·unfold kvI;rw [ybD];rfl
theorem zj4{k:Int}:∀ps:List (Int×Int),zlc (kvI ps) (.inl k)=(zbK ps k).map V.int
 | []=>rfl
 | p::ps=>by
  show zlc ((.inl p.1,.int p.2)::kvI ps) (.inl k)=_;unfold zbK;rw [ybx]
  by_cases h:p.1=k
  ·rw [zhn (by show (.inl p.1:Key)=_;rw [h]),yaQ h];rfl
  ·rw [zho (fun z=>h (Sum.inl.inj z)),yaH h];exact zj4 ps
def Rel.dcn{cl:Cf}{B:Base}{σ:St}{w:Wd}{ρ:Env}{S:Sto}{i:Nat}{o:Bool}{ps:List (Int×Int)}(R:Rel cl B σ w ρ S)(h:ρ[i]?=some (some (o,zcY ps))):∃a,σ[i]?=some (some (.ref a))/\(o=true->w.ow a=some (.slot i))/\w.H a=some (.dK (kvI ps)):=by
 have hinj:∀{qs:List (Int×Int)},dsI qs=dsI ps->qs=ps:=fun {qs} e=>by
  have:=congrArg ziQ e;rw [zdX,zdX] at this;exact Option.some.inj this
 obtain ⟨v,e1,r⟩:=R.slots i o _ h
 cases o with
 | false =>
  have r':Shd cl w v (.dic ((.non,.non)::dsI ps)):=r;generalize hq:dsI ps=q at r'
  cases r' with
  | dicK _ _ z=>cases z
  | dicN e _=>rw [hinj hq.symm] at e;exact ⟨_,e1,(fun z=>nomatch z),e⟩
 | true =>
  obtain ⟨a,o,rfl,h1,h2,t⟩:=r;have t':Top cl w o (.dic ((.non,.non)::dsI ps)):=t;generalize hq:dsI ps=q at t'
  cases t' with
  | dicK z=>cases z
  | dicN=>rw [hinj hq.symm] at h2;exact ⟨a,e1,fun _=>h1,h2⟩
noncomputable def zmt:Fe:=fun _ S=>.ok (zcY []) S
section
variable{X:Cx}{cl:Cf}{E:St->XK}{pos:Pos}
def zgK:PE X (.Dict [] [] pos) (tN cl E zmt):=PE.imp zlG fun σ H Q ⟨B,w,ρ,S,e,R,q⟩=>by
 subst e;intro p hp;exact q p (.dK []) w R (Fut.refl _) hp (.dicN (ps:=[]))
noncomputable def zgo(i:Nat)(f g:Fe):Fe:=fun ρ S=>match zeB i ρ with
 | some p=>(f ρ S).bind fun k S1=>(g ρ S1).bind fun z S2=>(match k with | .int j=>.ok (((zbK p.2 j).map D.int).getD z) S2 | _=>.bad)
 | none=>.bad
noncomputable def zgL(i:Nat)(fk fe:Fe):Fs:=fun ρ S=>match zeB i ρ with
 | some (true,ps)=>(match fe ρ S with
  | .ok d S1=>(match fk ρ S1 with
   | .ok k S2=>(match k,d with
    | .int j,.int v=>if zaX ps.length then .nx (ρ.set i (some (true,zcY (zir ps j v)))) S2 else .bad
    | _,_=>.bad)
   | .exc c S2=>.ex c ρ S2 | .bad=>.bad)
  | .exc c S1=>.ex c ρ S1 | .bad=>.bad)
 | _=>.bad
variable{own:Bool}{a b e:Expr}{f g fe fk:Fe}{pos':Pos}{i:Nat}{x:Str}{ap cp:Pos}
def zn5(hu:X.A.units+1<cLine)(hN:X.N[i]?=some x)(hv:Vis X.env.scope x)(hd:(x == ("__debug__":Str))=false)(hcd:(x == ("__classdict__":Str))=false)(hf:PE X a (tE cl E f))(hg:PE X b (tE cl E g))(m:M2 X (.Name x pos') "get" ap a b cp) :
  PE X (.Call (.Attribute (.Name x pos') "get" ap) [a,b] [] cp) (tE cl E (zgo i f g)):=by
 refine PE.imp (zlH (zca hN hv hd hcd) hf hg m) ?_;rintro σ H Q ⟨B,w,ρ,S,rfl,R,q⟩;unfold zgo at q
 cases hs:zeB i ρ with
 | none=>rw [hs] at q;exact q.elim
 | some p =>
  obtain ⟨o,ps⟩:=p;rw [hs] at q;have hρ:=ze3 hs;obtain ⟨ad,e1,h1,h2⟩:=R.dcn hρ;refine ⟨_,e1,ad,_,rfl,h2,B,w,ρ,S,rfl,R,?_⟩
  cases hfv:f ρ S with
  | bad=>rwa [hfv] at q
  | exc c S1=>rwa [hfv] at q
  | ok k S1 =>
   rw [hfv] at q;dsimp only [Out.bind] at q;intro y w1 R1 F1 sy;refine ⟨B,w1,ρ,S1,rfl,R1,?_⟩
   cases hgv:g ρ S1 with
   | bad=>rwa [hgv] at q
   | exc c S2=>rw [hgv] at q;exact fun w2 R2 F2=>q w2 R2 (F1.trans F2)
   | ok z S2 =>
    rw [hgv] at q;dsimp only at q;intro zv w2 R2 F2 sz
    cases k with
    | int j =>
     cases sy;dsimp only at q;obtain ⟨ad',e1',_,h2'⟩:=R2.dcn hρ;rw [e1] at e1';cases e1';refine ⟨.inl j,rfl,h2',?_⟩;rw [zj4]
     cases hl:zbK ps j with
     | none=>rw [hl] at q;exact q zv w2 R2 (F1.trans F2) sz
     | some n=>rw [hl] at q;exact q (.int n) w2 R2 (F1.trans F2) (.int n)
    | _=>exact q.elim
def znM(hu:X.A.units+1<cLine)(hN:X.N[i]?=some x)(hv:Vis X.env.scope x)(hd:(x == ("__debug__":Str))=false)(hcd:(x == ("__classdict__":Str))=false)(hk:PE X a (tE cl E fk))(he:PE X e (tE cl E fe))(sw:swapsWith e (some (.Subscript (.Name x pos') a ap)) pos.line X.env=pure false) :
  PS X (.Assign [.Subscript (.Name x pos') a ap] e pos) (tS cl E own (zgL i fk fe)):=by
 refine PS.imp (zlu (zca hN hv hd hcd) hk he sw) ?_;rintro De σ H ⟨B,w,ρ,S,rfl,R,q⟩;unfold zgL at q
 cases hs:zeB i ρ with
 | none=>rw [hs] at q;exact q.elim
 | some p =>
  obtain ⟨o,ps⟩:=p
  cases o with
  | false=>rw [hs] at q;exact q.elim
  | true =>
   rw [hs] at q;have hρ:=ze3 hs;refine ⟨B,w,ρ,S,rfl,R,?_⟩
   cases hev:fe ρ S with
   | bad=>rwa [hev] at q
   | exc c S1=>rw [hev] at q;exact fun w' R' F'=>q σ w' R' F'
   | ok d S1 =>
    rw [hev] at q;intro v w1 R1 F1 sv;obtain ⟨ad,e1,_,_⟩:=R1.dcn hρ;refine ⟨_,e1,B,w1,ρ,S1,rfl,R1,?_⟩;dsimp only at q
    cases hkv:fk ρ S1 with
    | bad=>rwa [hkv] at q
    | exc c S2=>rw [hkv] at q;exact fun w' R' F'=>q σ w' R' (F1.trans F')
    | ok k S2 =>
     rw [hkv] at q;intro y w2 R2 F2 sy;dsimp only at q
     cases k with
     | int j =>
      cases d with
      | int n =>
       dsimp only at q;split at q
       ·rename_i hsm;cases sy;cases sv;obtain ⟨ad',e1',ho,h2'⟩:=R2.dcn hρ;rw [e1] at e1';cases e1'
        have hlen:(kvI ps).length<sizeLine:=by unfold kvI;rw [yaf];exact zhw hsm
        refine ⟨ad,_,.inl j,rfl,rfl,h2',hlen,?_⟩;rw [<-zoL];have tt:Top cl w2 (.dK (kvI (zir ps j n))) (zcY (zir ps j n)):=.dicN;have R3:=R2.mut (d0:=.non) e1 (ho rfl) tt;exact q σ _ R3 ((F1.trans F2).trans (zdx (by rw [ho rfl];exact yaG _)))
       ·exact q.elim
      | _=>exact q.elim
     | _=>exact q.elim
end
end S2
namespace S2
open PySem PySem.Spec PyProof.Rows L2 ST
noncomputable def prI(x:Nat×Int):D:=.tup [.int (x.1:Int),.int x.2]
noncomputable def zmO(w:Wd):List (Addr×Nat×Int)->Wd | []=>w | x::l=>zmO (w.add x.1 (.tup [.int (x.2.1:Int),.int x.2.2])) l
theorem zh9{cl:Cf}{B:Base}{σ:St}{ρ:Env}{S:Sto}:∀(l:List (Addr×Nat×Int)) (w:Wd),Rel cl B σ w ρ S->(∀x∈l,w.H x.1=none)->(l.map (·.1)).Nodup->Rel cl B σ (zmO w l) ρ S/\Fut w (zmO w l)/\(zmO w l).H=zsi w.H l/\(∀b,(∀x∈l,x.1≠b)->(zmO w l).H b=w.H b)/\∀x∈l,Shd cl (zmO w l) (.ref x.1) (prI x.2)
 | [],w,R,_,_=>⟨R,Fut.refl _,rfl,fun _ _=>rfl,fun x hx=>nomatch hx⟩
 | x::l,w,R,hx,nd=>by
  rw [yau,ybk] at nd;have h0:=hx x (.head _);have gr:=zaq (w:=w) h0 (.tup [V.int (x.2.1:Int),.int x.2.2])
  obtain ⟨r1,r2,r3,r4,r5⟩:=zh9 l (w.add x.1 (.tup [.int (x.2.1:Int),.int x.2.2])) (R.grow gr) (fun y hy=>by
   show upd w.H x.1 _ y.1=none;rw [zag (fun z=>nd.1 (yaq.mpr ⟨y,hy,z⟩))]
   exact hx y (.tail _ hy)) nd.2
  refine ⟨r1,gr.fut.trans r2,r3,fun b hb=>?_,fun y hy=>?_⟩
  ·rw [show zmO w (x::l)=zmO (w.add x.1 _) l from rfl,r4 b fun y hy=>hb y (.tail _ hy)];exact zag (fun z=>hb x (.head _) z.symm)
  ·rcases yap.mp hy with rfl | hy
   ·exact (Shd.newT h0 (.cons (.int _) (.cons (.int _) .nil))).up r2
   ·exact r5 y hy
noncomputable def zpz(ps:List (Int×Int)):Option (List D) :=
 if ps.all (fun p=>decide (0<=p.1/\p.1<5))&&decide ((ps.map (·.1)).Nodup)&&decide (ps.length<=5) then some ((zcN.filter fun n:Nat=>decide ((n:Int)∈ps.map (·.1))).map fun n:Nat=>prI (n,(zbK ps (n:Int)).getD 0)) else none
noncomputable def zpC(i:Nat):Fe:=fun ρ S=>match zeB i ρ with
 | some p=>(match zpz p.2 with | some l=>.ok (.lst l) S | none=>.bad)
 | none=>.bad
section
variable{X:Cx}{cl:Cf}{E:St->XK}{i:Nat}{x:Str}{p px ap cp pos:Pos}
theorem zj1:∀{ps:List (Int×Int)} {j:Nat} {a b:Int},(ps.map (·.1)).Nodup->ps[j]?=some (a,b)->zbK ps a=some b
 | q::ps,0,a,b,nd,h=>by
  cases h;unfold zbK;rw [ybx,yaQ rfl];rfl
 | q::ps,j+1,a,b,nd,h=>by
  rw [yau,ybk] at nd;have hm:(a,b)∈ps:=yaZ h;have hne:¬ q.1=a:=fun z=>nd.1 (z ▸ yaq.mpr ⟨(a,b),hm,rfl⟩)
  unfold zbK;rw [ybx,yaH hne];exact zj1 nd.2 h
def zqu(hc:X.calm=true)(hg:Gl X "sorted")(hm:X.mg "sorted" = none)(hN:X.N[i]?=some x)(hv:Vis X.env.scope x)(hd:(x == ("__debug__":Str))=false)(hcd:(x == ("__classdict__":Str))=false)(hln:(ap.endLine == cp.line)=true) :
  PE X (.Call (.Name "sorted" p) [.Call (.Attribute (.Name x px) "items" ap) [] [] cp] [] pos) (tN cl E (zpC i)):=by
 refine PE.imp (zdY (zdA hc) hg hm (by decide +kernel) (zbZ (zlE (zca hN hv hd hcd) rfl hln) zea)) ?_;rintro σ H Q ⟨B,w,ρ,S,rfl,R,q⟩;unfold zpC at q
 cases hs:zeB i ρ with
 | none=>rw [hs] at q;exact q.elim
 | some pp =>
  obtain ⟨o,ps⟩:=pp;rw [hs] at q;dsimp only at q;obtain ⟨ad,e1,_,h2⟩:=R.dcn (ze3 hs)
  cases hr:zpz ps with
  | none=>rw [hr] at q;exact q.elim
  | some l =>
   rw [hr] at q;dsimp only at q;unfold zpz at hr;split at hr
   ·rename_i hb;rw [yab,yab,yaM,yaM,ybf] at hb;obtain ⟨⟨hb1,nd⟩,hl5⟩:=hb;cases hr
    have ek:kvN (ps.map fun y=>(y.1.toNat,y.2))=kvI ps:=by
     unfold kvN kvI;rw [ybb];apply yb5;intro y hy;have:=yah (hb1 y hy);show ((.inl ((y.1.toNat:Nat):Int):Key),V.int y.2)=(.inl y.1,.int y.2);rw [Int.toNat_of_nonneg this.1]
    have em:(ps.map fun y=>(y.1.toNat,y.2)).map (·.1)=ps.map fun y=>y.1.toNat:=by rw [ybb];rfl
    refine ⟨ad,kvI ps,e1,h2,fun v hv0=>⟨v,ad,ps.map fun y=>(y.1.toNat,y.2),rfl,zat,?_,?_,?_,by rw [yaf];exact hl5,fun as pm B' al and' fr hB p1 p2=>?_⟩⟩
    ·rw [zag (zam h2 hv0),h2,ek]
    ·rw [em];unfold List.Nodup at nd ⊢;rw [ycZ] at nd ⊢;refine yca (fun {a b} ha hb' h z=>h ?_) nd;have h1:=(yah (hb1 a ha)).1;have h3:=(yah (hb1 b hb')).1;omega
    ·rw [em];intro k hk;obtain ⟨y,hy,rfl⟩:=yaq.mp hk;have:=yah (hb1 y hy);omega
    ·have al':as.length=ps.length:=by rw [al,yaf]
     have gr0:=zaq (w:=w) hv0 (.ext (zhh v ad));have ez:((as.zip (ps.map fun y=>(y.1.toNat,y.2))).map (·.1))=as:=List.map_fst_zip (ycK al);obtain ⟨r1,r2,r3,r4,r5⟩:=zh9 (as.zip (ps.map fun y=>(y.1.toNat,y.2))) (w.add v (.ext (zhh v ad))) (R.grow gr0) (fun y hy=>(fr y.1 (ez ▸ yaq.mpr ⟨y,hy,rfl⟩)).1) (by rw [ez];exact and');show Q (.ref B') (upd (zsi (w.add v (.ext (zhh v ad))).H _) B' _);rw [<-r3];refine q B' _ _ r1 (gr0.fut.trans r2) ?_ (.lst ?_)
     ·rw [r4 B' fun y hy=>(fr y.1 (ez ▸ yaq.mpr ⟨y,hy,rfl⟩)).2];exact hB
     ·have ef:(zcN.filter fun n:Nat=>decide ((n:Int)∈ps.map (·.1)))=pm.map fun i=>((ps.map fun y=>(y.1.toNat,y.2)).map (·.1)).getD i 9:=by
       rw [p1,em];apply List.filter_congr;intro n _;rw [yb4,yaq,yaq];constructor
       ·rintro ⟨y,hy,e⟩;exact ⟨y,hy,by omega⟩
       ·rintro ⟨y,hy,e⟩;have:=yah (hb1 y hy);exact ⟨y,hy,by omega⟩
      rw [ef,ybb];generalize hW:zmO (w.add v (.ext (zhh v ad))) (as.zip (ps.map fun y=>(y.1.toNat,y.2)))=W at *
      have go:∀l:List Nat,(∀i∈l,i<ps.length)->Shds cl W (l.map fun i=>V.ref (as.getD i 0)) (l.map ((fun n:Nat=>prI (n,(zbK ps (n:Int)).getD 0))∘fun i=>((ps.map fun y=>(y.1.toNat,y.2)).map (·.1)).getD i 9)):=by
       intro l
       induction l with
       | nil=>intro _;exact .nil
       | cons i l ih =>
        intro hl;refine .cons ?_ (ih fun j hj=>hl j (.tail _ hj));have hi:=hl i (.head _)
        have hi':i<as.length:=by rw [al'];exact hi
        have ep:ps[i]?=some ps[i]:=yac hi;have e0:=yah (hb1 ps[i] (ya7 hi));have z:=r5 (as[i],ps[i].1.toNat,ps[i].2) (yaZ (i:=i) (List.getElem?_zip_eq_some.mpr ⟨yac hi',by rw [yas,ep];rfl⟩))
        have ea:as.getD i 0=as[i]:=by rw [yat,yac hi'];rfl
        have eb:((ps.map fun y=>(y.1.toNat,y.2)).map (·.1)).getD i 9=ps[i].1.toNat:=by rw [em,yat,yas,ep];rfl
        show Shd cl W (.ref (as.getD i 0)) (prI ((((ps.map fun y=>(y.1.toNat,y.2)).map (·.1)).getD i 9),(zbK ps ((((ps.map fun y=>(y.1.toNat,y.2)).map (·.1)).getD i 9:Nat):Int)).getD 0));rw [ea,eb,Int.toNat_of_nonneg e0.1,zj1 (a:=ps[i].1) (b:=ps[i].2) nd ep];exact z
      exact go pm fun i hi=>by have:=p2 i hi;rwa [yaf] at this
   ·cases hr
end
end S2
namespace L2
open PySem PySem.Spec PyProof.Rows
end L2
namespace S2
open PySem PySem.Spec PyProof.Rows L2
section
variable{X:Cx}{cl:Cf}{E:St->XK}{a:Expr}{f:Fe}{i j:Nat}{x y:Str}{px py pos pt pt2 p1 p2:Pos}{own:Bool}{kt k2:Nat}
end
end S2
namespace L2
open PySem PySem.Spec PyProof.Rows
variable{X:Cx}
end L2
namespace S2
open PySem PySem.Spec PyProof.Rows L2
section
variable{X:Cx}{cl:Cf}{E:St->XK}{own:Bool}{e:Expr}{f:Fe}{pos pos':Pos}
end
end S2
namespace S2
open PySem PySem.Spec PyProof.Rows L2
structure FnI where
 ar:Nat
 own:Bool
 run:List D->Sto->Out D
structure ObE where
 cur:Str
 fk:Str->Str->Bool
 df:Str->Bool
 mt:Str->Option (Str×FnI)
 mks:Str->Option (List D×FnI)
structure Genv where
 con:Str->Option D
 fn:Str->Option FnI
 blt:Str->Bool
 exc:Str->Bool
 und:Str->Str->Bool
 isx:Str->Str->Option Bool
 ob:ObE
 ds:Str->Bool
abbrev bmV:List Value:=[.type "ValueError",.type "Exception",.type "BaseException",.type "object"]
structure GOk(cl:Cf)(G:Genv)(P:Program)(wo:PySem.World)(K:PySem.W.Frag)(mg:Z6)(base:Heap)(k:Nat):Prop where
 con:∀x d,G.con x=some d->∃v u,mg x=some u/\zaJ v u/\∀w,Shd cl w v d
 fn:∀x fi,G.fn x=some fi->∃f fd ps,mg x=some (.ref f)/\PySem.W.keepIn K (.ref f)=true/\zcD K fd ps []/\FnOk P wo K mg base (CXE P wo) k f fd ps (zik cl fi.ar fi.own fi.run)
 blt:∀x,G.blt x=true->mg x=none
 exc:∀c,G.exc c=true->mg c=some (.ref (cl c))/\PySem.W.excIn K (cl c) bmV "ValueError.__new__" = true
 und:∀c C,G.und c C=true->L2.zpt K (cl c) (cl C)
 isx:∀c C b,G.isx c C=some b->PySem.W.ExcCls K (cl c)/\PySem.W.kitOne K (.ref (cl c)) (zwN cl C)=some b
 fk:∀c f,G.ob.fk c f=true->zk5 cl c f
 mt:∀m c fi,G.ob.mt m=some (c,fi)->∃f fd ps,Cls K (cl c)/\Meth K (cl c) m f/\zcD K fd ps []/\FnOk P wo K mg base (CXE P wo) k f fd ps (zik cl fi.ar fi.own fi.run)
 mks:∀c dds fi,G.ob.mks c=some (dds,fi)->∃f fd ps dvs ds k',k'+1<=k/\mg c=some (.ref (cl c))/\Mk K (cl c) f/\zcD K fd ps []/\zcD K fd ps ds/\Vals dvs ds/\(∀w,Shds cl w dvs dds)/\FnOk P wo K mg base (CXE P wo) k' f fd ps (zik cl fi.ar false fi.run)
noncomputable abbrev Names:=List (Str×NameKind)
structure Gx(cl:Cf)(G:Genv)(k:Nat)(X:Cx)(nm:Names)(N:List Str)(E:St->XK):Prop where
 gok:GOk cl G X.prog X.w X.K X.mg X.base k
 room:Room k X.A
 calm:X.calm=true
 pass:zcu (CXE X.prog X.w) X E
 eN:X.N=N
 kk:X.K=cl.K
 pp:X.prog=cl.P
 ww:X.w=cl.wo
 nd:N.Nodup
 vis:∀x kd,nm.lookup x=some kd->∃kd',X.env.scope.names.lookup x=some kd'/\(kd'=kd\/(kd=.free/\kd'=.cell))
 fnx:∀x,nm.lookup x=some .local->X.env.scope.names.lookup x=some .local
noncomputable def idx:List Str->Str->Option Nat
 | [],_=>none
 | y::l,x=>if y=x then some 0 else (idx l x).map (·+1)
theorem zft:∀{N:List Str} {x:Str} {i:Nat},idx N x=some i->N[i]?=some x
 | y::l,x,i,h=>by
  unfold idx at h;split at h
  ·rename_i e;cases h;rw [e];rfl
  ·cases hr:idx l x with
   | none=>rw [hr] at h;cases h
   | some j=>rw [hr] at h;cases h;simpa using zft hr
noncomputable def zhL(x:Str):Bool:=!(x == ("__debug__":Str))&&!(x == ("__classdict__":Str))&&!decide (x = "__name__")
def zf8{x:Str}(h:zhL x=true):(x == ("__debug__":Str))=false/\(x == ("__classdict__":Str))=false/\x ≠ "__name__":=by
 unfold zhL at h;simp only [yab,ybh,ybG] at h;exact ⟨h.1.1,h.1.2,h.2⟩
noncomputable def zt9:Option NameKind->Bool | some .local=>true | some .cell=>true | some .free=>true | _=>false
noncomputable def zbp(nm:Names)(N:List Str)(x:Str):Option Nat:=if zt9 (nm.lookup x)&&zhL x then idx N x else none
noncomputable def zbE(nm:Names)(x:Str):Bool:=decide (nm.lookup x=some .globalImplicit)&&zhL x
section
variable{cl:Cf}{G:Genv}{k:Nat}{X:Cx}{nm:Names}{N:List Str}{E:St->XK}
def Gx.slot(g:Gx cl G k X nm N E){x:Str}{i:Nat}(h:zbp nm N x=some i):X.N[i]?=some x/\Vis X.env.scope x/\(x == ("__debug__":Str))=false/\(x == ("__classdict__":Str))=false:=by
 unfold zbp at h;split at h
 ·rename_i hv;rw [yab] at hv;obtain ⟨h1,h2,_⟩:=zf8 hv.2;refine ⟨by rw [g.eN];exact zft h,?_,h1,h2⟩
  cases hk:nm.lookup x with
  | none=>rw [hk] at hv;exact absurd hv.1 (by decide)
  | some kd =>
   obtain ⟨kd',e,z⟩:=g.vis x kd hk;rw [hk] at hv;unfold Vis;rw [e]
   rcases z with rfl | ⟨_,rfl⟩
   ·cases kd'<;>first | exact .inl rfl | exact .inr (.inl rfl) | exact .inr (.inr rfl) | exact absurd hv.1 (by decide)
   ·exact .inr (.inl rfl)
 ·cases h
def Gx.glob(g:Gx cl G k X nm N E){x:Str}(h:zbE nm x=true):Gl X x/\(x == ("__debug__":Str))=false/\x ≠ "__name__":=by
 unfold zbE at h;rw [yab] at h;obtain ⟨h1,_,h3⟩:=zf8 h.2;obtain ⟨kd',e,z⟩:=g.vis x _ (yah h.1)
 rcases z with rfl | ⟨z,_⟩
 ·exact ⟨e,h1,h3⟩
 ·cases z
end
noncomputable abbrev Rec:=Names->List Str->Expr->Option (Bool×Fe)
noncomputable def okE:Expr->Bool | .Starred _ _=>false | .Set _ _ _=>false | _=>true
def zaf{e:Expr}(h:okE e=true):zbf e=true:=by cases e<;>first | rfl | cases h
def zec{e:Expr}{op:CmpOp}(h:okE e=true):behindInMarks op e=false:=by cases e<;>first | rfl | cases h
def zfh{e:Expr}{env:PySem.Env}(h:okE e=true)(v:Value):foldedSetIterable e env v=pure v:=by cases e<;>first | rfl | cases h
noncomputable def zbg:Expr->Bool | .IfExp _ _ _ _=>false | _=>true
noncomputable def zaM(cl:Cf)(G:Genv)(k:Nat)(rc:Rec):Prop:=∀(X:Cx) (nm:Names) (N:List Str) (E:St->XK),Gx cl G k X nm N E->∀(e:Expr) (o:Bool) (f:Fe),rc nm N e=some (o,f) →
 (o=true->PE X e (tN cl E f))/\PE X e (tE cl E f)/\(zbg e=true->PT X e (tTr cl E f))/\okE e=true
noncomputable def shE(rc:Rec)(nm:Names)(N:List Str)(e:Expr):Option Fe:=(rc nm N e).map (·.2)
noncomputable def opE(rc:Rec)(nm:Names)(N:List Str)(e:Expr):Option Fe:=match e with
 | .Name x _=>(match zbp nm N x with | some i=>some (zaj i) | none=>shE rc nm N e)
 | _=>shE rc nm N e
noncomputable def shL(rc:Rec)(nm:Names)(N:List Str):List Expr->Option (List Fe)
 | []=>some []
 | e::es=>(shE rc nm N e).bind fun f=>(shL rc nm N es).bind fun fs=>some (f::fs)
noncomputable def opL(rc:Rec)(nm:Names)(N:List Str):List Expr->Option (List Fe)
 | []=>some []
 | e::es=>(opE rc nm N e).bind fun f=>(opL rc nm N es).bind fun fs=>some (f::fs)
section
variable{cl:Cf}{G:Genv}{k:Nat}{rc:Rec}{X:Cx}{nm:Names}{N:List Str}{E:St->XK}
def zau(hs:zaM cl G k rc)(g:Gx cl G k X nm N E){e:Expr}{f:Fe}(h:shE rc nm N e=some f):PE X e (tE cl E f)/\(zbg e=true->PT X e (tTr cl E f))/\okE e=true:=by
 unfold shE at h
 cases hr:rc nm N e with
 | none=>rw [hr] at h;cases h
 | some p =>
  obtain ⟨o,f'⟩:=p;rw [hr] at h;cases h;obtain ⟨_,h2,h3,h4⟩:=hs X nm N E g e o _ hr;exact ⟨h2,h3,h4⟩
def zbJ(hs:zaM cl G k rc)(g:Gx cl G k X nm N E){e:Expr}{f:Fe}(h:opE rc nm N e=some f):PE X e (tH cl E f)/\okE e=true:=by
 unfold opE at h;split at h
 ·rename_i x pos;split at h
  ·rename_i i hi;cases h;obtain ⟨h1,h2,h3,h4⟩:=g.slot hi;exact ⟨zqx h1 h2 h3 h4,rfl⟩
  ·obtain ⟨h1,_,h3⟩:=zau hs g h;exact ⟨zjk h1,h3⟩
 ·obtain ⟨h1,_,h3⟩:=zau hs g h;exact ⟨zjk h1,h3⟩
theorem zd4(hs:zaM cl G k rc)(g:Gx cl G k X nm N E):∀{es:List Expr} {fs:List Fe},shL rc nm N es=some fs->PA X es (tAs cl E fs)/\es.all zbf=true/\fs.length=es.length
 | [],fs,h=>by cases h;exact ⟨zeG,rfl,rfl⟩
 | e::es,fs,h=>by
  unfold shL at h
  cases h1:shE rc nm N e with
  | none=>rw [h1] at h;cases h
  | some f =>
   rw [h1] at h
   cases h2:shL rc nm N es with
   | none=>rw [h2] at h;cases h
   | some fs' =>
    rw [h2] at h;cases h;obtain ⟨a1,_,a3⟩:=zau hs g h1;obtain ⟨b1,b2,b3⟩:=zd4 hs g h2;exact ⟨zcf a1 b1 (za1 (zaf a3)),by rw [ybp,zaf a3,b2];rfl,by rw [yaj,yaj,b3]⟩
theorem zm9(hs:zaM cl G k rc)(g:Gx cl G k X nm N E):∀{es:List Expr} {fs:List Fe},opL rc nm N es=some fs->PA X es (tHs cl E fs)/\es.all zbf=true/\fs.length=es.length
 | [],fs,h=>by cases h;exact ⟨zmX,rfl,rfl⟩
 | e::es,fs,h=>by
  unfold opL at h
  cases h1:opE rc nm N e with
  | none=>rw [h1] at h;cases h
  | some f =>
   rw [h1] at h
   cases h2:opL rc nm N es with
   | none=>rw [h2] at h;cases h
   | some fs' =>
    rw [h2] at h;cases h;obtain ⟨a1,a3⟩:=zbJ hs g h1;obtain ⟨b1,b2,b3⟩:=zm9 hs g h2;exact ⟨zjg a1 b1 (za1 (zaf a3)),by rw [ybp,zaf a3,b2];rfl,by rw [yaj,yaj,b3]⟩
end
noncomputable def zwM:Const->Option D
 | .int i=>some (.int i)
 | .bool b=>some (.bl b)
 | .none=>some .non
 | .str x=>some (.str x)
 | _=>none
noncomputable def zus:Operator->Option (D->D->Option D)
 | .Add=>some zbU | .Sub=>some zpy | .Mult=>some zgW | .Mod=>some zlX | .FloorDiv=>some zrY | _=>none
noncomputable def zki:Expr->Bool | .Constant .none _ _=>true | _=>false
noncomputable def zkj:Expr->Bool | .Constant (.bool _) _ _=>true | _=>false
noncomputable def ltD:=zpD fun i j=>decide (i<j)
noncomputable def leD:=zpD fun i j=>decide (i<=j)
noncomputable def gtD:=zpD fun i j=>decide (j<i)
noncomputable def geD:=zpD fun i j=>decide (j<=i)
noncomputable def zr3:CmpOp->Expr->Option (D->D->Option D)
 | .Eq,_=>some eqD | .NotEq,_=>some neD | .Lt,_=>some ltD | .LtE,_=>some leD | .Gt,_=>some gtD | .GtE,_=>some geD | .In,_=>some inD | .NotIn,_=>some zoD
 | .Is,b=>if zki b then some zmg else if zkj b then some zsB else none
 | .IsNot,b=>if zki b then some ziv else if zkj b then some zlS else none
noncomputable def ziK(rc:Rec)(nm:Names)(N:List Str)(op:BoolOp):List Expr->Option Fe
 | []=>none
 | [a]=>if zbg a then shE rc nm N a else none
 | a::b::r=>if zbg a then (shE rc nm N a).bind fun f=>(ziK rc nm N op (b::r)).bind fun h=>some (match op with | .And=>zhb f h | .Or=>eOr f h) else none
structure BI where
 g:List D->Option D
 nw:Bool
noncomputable def zkW(x:Str):Option BI :=
 if x = "len" then some ⟨zc2,false⟩
 else if x = "all" then some ⟨zpG,false⟩
 else if x = "sum" then some ⟨zpx,false⟩
 else if x = "tuple" then some ⟨zbo,false⟩
 else none
noncomputable def zpO(x:Str):Option String:=if x = "int" then some "int" else if x = "bool" then some "bool" else if x = "tuple" then some "tuple" else if x = "str" then some "str" else if x = "list" then some "list" else none
noncomputable def zpi(G:Genv)(rc:Rec)(nm:Names)(N:List Str)(x:Str)(args:List Expr):Option (Bool×Fe) :=
 if zbE nm x then
  match G.fn x with
  | some fi=>if args.length=fi.ar then (shL rc nm N args).bind fun fs=>some (fi.own,eFn fi.run fs) else none
  | none=>if G.blt x then
    (if x = "isinstance" then (match args with
     | [a,.Name t _]=>if zbE nm t&&G.blt t&&(zpO t).isSome then (zpO t).bind fun T=>(opE rc nm N a).bind fun f=>some (false,eUn (zdP T) f)
      else none
     | _=>none)
    else match args with
     | []=>none
     | _::_=>(zkW x).bind fun bi=>(opL rc nm N args).bind fun fs=>some (bi.nw,zar bi.g fs)) else none
 else none
noncomputable def znk:Expr->Bool | .Tuple _ _ _=>true | _=>false
noncomputable def ziB(G:Genv)(rc:Rec)(nm:Names)(N:List Str)(tg e:Expr):Option Fi:=match e with
 | .Call (.Name x p) args [] pos=>if x = "range" then (if zbE nm x&&G.blt x then (match args with
   | [a]=>(shE rc nm N a).bind fun f=>some (zdQ f)
   | [a,b]=>(shE rc nm N a).bind fun f=>(shE rc nm N b).bind fun h=>some (zkC f h)
   | _=>none) else none)
  else if x = "enumerate" then (if zbE nm x&&G.blt x&&znk tg then (match args with
   | [a]=>(shE rc nm N a).bind fun f=>some (zkF f)
   | _=>none) else none)
  else if x = "zip" then (if zbE nm x&&G.blt x&&znk tg then (match args with
   | [a,b]=>(shE rc nm N a).bind fun f=>(shE rc nm N b).bind fun h=>some (zk8 f h)
   | _=>none) else none)
  else (shE rc nm N e).map zaz
 | _=>(shE rc nm N e).map zaz
noncomputable def zto:Expr->Option (Str×Expr×Pos×Pos) | .Call (.Name y p) [a] [] q=>some (y,a,p,q) | _=>none
noncomputable def spA:List Expr->Option (Str×Expr×Pos×Pos) | [e]=>zto e | _=>none
def zqe{args:List Expr}{c:Str×Expr×Pos×Pos}(h:spA args=some c):args=[.Call (.Name c.1 c.2.2.1) [c.2.1] [] c.2.2.2]:=by
 match args,h with
 | [e],h =>
  have h':zto e=some c:=h;unfold zto at h';split at h'
  ·cases h';rfl
  ·cases h'
noncomputable def spG(G:Genv)(rc:Rec)(nm:Names)(N:List Str)(x:Str)(args:List Expr):Option (Bool×Fe):=(spA args).bind fun c =>
 if decide (x = "sorted")&&decide (c.1 = "set")&&zbE nm "sorted" && G.blt "sorted" && zbE nm "set" && G.blt "set" then (shE rc nm N c.2.1).map fun f=>(true,eUn zgI f)
 else none
section
variable{cl:Cf}{G:Genv}{k:Nat}{rc:Rec}{X:Cx}{nm:Names}{N:List Str}{E:St->XK}
theorem Gx.units(g:Gx cl G k X nm N E):X.A.units+64<cLine:=g.room.units
def znu{op:Operator}{gg:D->D->Option D}(h:zus op=some gg):OpD X cl (binaryOp op) gg:=by
 cases op<;>simp [zus] at h<;>subst h
 ·exact zrn
 ·exact zrg
 ·exact zri
 ·exact zrj
 ·exact zrm
def zeT(g:Gx cl G k X nm N E){op:CmpOp}{b:Expr}{gg:D->D->Option D}(h:zr3 op b=some gg):OpD X cl (compareOp op) gg:=by
 cases op<;>simp only [zr3] at h
 ·cases h;exact ztM g.kk g.units
 ·cases h;exact ztK g.kk g.units
 ·cases h;exact zfi ztG
 ·cases h;exact zfi ztH
 ·cases h;exact zfi ztI
 ·cases h;exact zfi ztJ
 ·split at h
  ·cases h;exact zrk
  ·split at h
   ·cases h;exact zrl
   ·cases h
 ·split at h
  ·cases h;exact zoA
  ·split at h
   ·cases h;exact zoB
   ·cases h
 ·cases h;exact ztL g.kk g.units
 ·cases h;exact zrh g.kk g.units
theorem zkV(hs:zaM cl G k rc)(g:Gx cl G k X nm N E){op:BoolOp}{pos:Pos}:∀{es:List Expr} {f:Fe},ziK rc nm N op es=some f->PE X (.BoolOp op es pos) (tE cl E f)/\PW X (.BoolOp op es pos) (tTr cl E f)
 | [],f,h=>by cases h
 | [a],f,h=>by
  unfold ziK at h;split at h
  ·rename_i ht;obtain ⟨h1,h2,_⟩:=zau hs g h;refine ⟨zqY h1,?_⟩
   cases op with
   | And=>exact zod (h2 ht)
   | Or=>exact zqK (h2 ht)
  ·cases h
 | a::b::r,f,h=>by
  unfold ziK at h;split at h
  ·rename_i ht
   cases h1:shE rc nm N a with
   | none=>rw [h1] at h;cases h
   | some fa =>
    rw [h1] at h
    cases h2:ziK rc nm N op (b::r) with
    | none=>rw [h2] at h;cases h
    | some fb =>
     rw [h2] at h;obtain ⟨a1,a2,_⟩:=zau hs g h1;obtain ⟨b1,b2⟩:=zkV hs g (pos:=pos) h2
     cases op with
     | And=>cases h;exact ⟨zqy a1 b1,zp2 (a2 ht) b2⟩
     | Or=>cases h;exact ⟨ztq a1 b1,zti (a2 ht) b2⟩
  ·cases h
def zmK:bootBuiltins "all" = some (.builtin "all"):=by decide +kernel
def zeU:bootBuiltins "tuple" = some (.type "tuple"):=by decide +kernel
def zkS:bootBuiltins "list" = some (.type "list"):=by decide +kernel
def zmJ:bootBuiltins "int" = some (.type "int"):=by decide +kernel
def zkU:bootBuiltins "bool" = some (.type "bool"):=by decide +kernel
def zsH:bootBuiltins "max" = some (.builtin "max"):=by decide +kernel
def zsG:bootBuiltins "min" = some (.builtin "min"):=by decide +kernel
def zsI:bootBuiltins "abs" = some (.builtin "abs"):=by decide +kernel
def zmI:bootBuiltins "str" = some (.type "str"):=by decide +kernel
def zsc(g:Gx cl G k X nm N E){x:Str}{bi:BI}{e:Expr}{es:List Expr}{fs:List Fe}{p pos:Pos}(h:zkW x=some bi)(hg:zbE nm x=true)(hb:G.blt x=true)(ha:PA X (e::es) (tHs cl E fs))(hp:(e::es).all zbf=true) :
  (bi.nw=true->PE X (.Call (.Name x p) (e::es) [] pos) (tN cl E (zar bi.g fs)))/\PE X (.Call (.Name x p) (e::es) [] pos) (tE cl E (zar bi.g fs)):=by
 obtain ⟨g1,g2,g3⟩:=g.glob hg;have m:=g.gok.blt x hb;rw [ybp,yab] at hp;have st:=za1 (es:=es) (env:=X.env) hp.1;have pl:=za4 (pos:=pos) (env:=X.env) hp.2
 have D1:∀{id:String} {gg:List D->Option D},ziP X cl (.builtin id) gg->bootBuiltins x=some (.builtin id)->PE X (.Call (.Name x p) (e::es) [] pos) (tE cl E (zar gg fs)):=fun hc hv =>
  PE.imp (zdY hc g1 m hv ha g3 g2 st pl) fun _ _ _ q=>zpZ (fun _ _ _ z=>z) q
 have D2:∀{T:String} {gg:List D->Option D},ziP X cl (.type T) gg->bootBuiltins x=some (.type T)->PE X (.Call (.Name x p) (e::es) [] pos) (tE cl E (zar gg fs)):=fun hc hv =>
  PE.imp (zd9 hc g1 m hv ha g3 g2 st pl) fun _ _ _ q=>zpZ (fun _ _ _ z=>z) q
 have N2:∀{T:String} {gg:List D->Option D},zuJ X cl (.type T) gg->bootBuiltins x=some (.type T)->PE X (.Call (.Name x p) (e::es) [] pos) (tN cl E (zar gg fs)):=fun hc hv =>
  PE.imp (zd9 hc g1 m hv ha g3 g2 st pl) fun _ _ _ q=>ztg (fun _ _ _ z=>z) q
 unfold zkW at h;split at h
 ·rename_i e';cases h;exact ⟨(fun z=>absurd z (by decide)),D1 (zr7 g.kk) (by rw [e'];exact PySem.boot_len)⟩
 split at h
 ·rename_i e';cases h;exact ⟨(fun z=>absurd z (by decide)),D1 (zr8 g.calm) (by rw [e'];exact zmK)⟩
 split at h
 ·rename_i e';cases h;exact ⟨(fun z=>absurd z (by decide)),D1 (zr6 g.calm) (by rw [e'];exact PyProof.Rows.boot_sum)⟩
 split at h
 ·rename_i e';cases h;exact ⟨(fun z=>absurd z (by decide)),D2 zmD (by rw [e'];exact zeU)⟩
 ·cases h
def zs3{t:Str}{T:String}(h:zpO t=some T):bootBuiltins t=some (.type T):=by
 unfold zpO at h;split at h
 ·rename_i e;cases h;rw [e];exact zmJ
 split at h
 ·rename_i e;cases h;rw [e];exact zkU
 split at h
 ·rename_i e;cases h;rw [e];exact zeU
 split at h
 ·rename_i e;cases h;rw [e];exact zmI
 split at h
 ·rename_i e;cases h;rw [e];exact zkS
 ·cases h
def zph(hs:zaM cl G k rc)(g:Gx cl G k X nm N E){x:Str}{args:List Expr}{o:Bool}{f:Fe}{p pos:Pos}(h:zpi G rc nm N x args=some (o,f)) :
  (o=true->PE X (.Call (.Name x p) args [] pos) (tN cl E f))/\PE X (.Call (.Name x p) args [] pos) (tE cl E f):=by
 unfold zpi at h;split at h
 ·rename_i hg;obtain ⟨g1,g2,g3⟩:=g.glob hg;split at h
  ·rename_i fi hfi;split at h
   ·rename_i hl;obtain ⟨fa,fd,ps,m1,m2,m3,m4⟩:=g.gok.fn x fi hfi
    cases h1:shL rc nm N args with
    | none=>rw [h1] at h;cases h
    | some fs =>
     rw [h1] at h;cases h;obtain ⟨a1,a2,a3⟩:=zd4 hs g h1;have hlen:fs.length=fi.ar:=a3.trans hl
     have main:PE X (.Call (.Name x p) args [] pos) (zfP (zik cl fi.ar fi.own fi.run) [] E (tAs cl E fs)):=by
      cases args with
      | nil =>
       cases h1;refine PE.imp (zjN m4 g.room g1 m1 m2 m3 .nil g.pass g2) ?_;rintro σ H Q ⟨B,w,ρ,S,rfl,R,q⟩;exact q [] w R (Fut.refl _) .nil
      | cons e es =>
       rw [ybp,yab] at a2;exact zlK m4 g.room g1 m1 m2 m3 .nil g.pass a1 g2 (za1 a2.1) (za4 a2.2)
     cases ho:fi.own with
     | false =>
      rw [ho] at main;exact ⟨(fun z=>by cases z),PE.imp main fun _ _ _ q=>zsb q hlen⟩
     | true =>
      rw [ho] at main;have n:PE X (.Call (.Name x p) args [] pos) (tN cl E (eFn fi.run fs)):=PE.imp main fun _ _ _ q=>zsa q hlen
      exact ⟨fun _=>n,zb9 n⟩
   ·cases h
  ·split at h
   ·rename_i hb;split at h
    ·rename_i hx;subst hx;split at h
     ·rename_i a t p2;split at h
      ·rename_i ht;rw [yab,yab] at ht;replace ht:=ht.1
       cases hT:zpO t with
       | none=>rw [hT] at h;cases h
       | some T =>
        rw [hT] at h
        cases h1:opE rc nm N a with
        | none=>rw [h1] at h;cases h
        | some fa =>
         rw [h1] at h;cases h;obtain ⟨t1,t2,t3⟩:=g.glob ht.1;obtain ⟨a1,a2⟩:=zbJ hs g h1;exact ⟨(fun z=>by cases z),zn4 g1 (g.gok.blt _ hb) t1 (g.gok.blt _ ht.2) (zs3 hT) t3 t2 (zaf a2) a1⟩
      ·cases h
     ·cases h
    ·split at h
     ·cases h
     ·rename_i e es
      cases h2:zkW x with
      | none=>rw [h2] at h;cases h
      | some bi =>
       rw [h2] at h
       cases h1:opL rc nm N (e::es) with
       | none=>rw [h1] at h;cases h
       | some fs =>
        rw [h1] at h;cases h;obtain ⟨a1,a2,_⟩:=zm9 hs g h1;exact zsc g h2 hg hb a1 a2
   ·cases h
 ·cases h
def zkf(hs:zaM cl G k rc)(g:Gx cl G k X nm N E){e tg:Expr}{fi:Fi}(h:ziB G rc nm N tg e=some fi):PI X tg e (tI cl E fi)/\okE e=true:=by
 have gen:∀{e:Expr},(shE rc nm N e).map zaz=some fi->PI X tg e (tI cl E fi)/\okE e=true:=fun {e} h=>by
  cases h1:shE rc nm N e with
  | none=>rw [h1] at h;cases h
  | some f =>
   rw [h1] at h;cases h;obtain ⟨a1,_,a3⟩:=zau hs g h1;exact ⟨zqj g.kk a1,a3⟩
 unfold ziB at h;split at h
 ·rename_i x p args pos;split at h
  ·rename_i hx;subst hx;split at h
   ·rename_i hb;rw [yab] at hb;obtain ⟨g1,_,_⟩:=g.glob hb.1;have m:=g.gok.blt _ hb.2;split at h
    ·rename_i a
     cases h1:shE rc nm N a with
     | none=>rw [h1] at h;cases h
     | some f =>
      rw [h1] at h;cases h;obtain ⟨a1,_,a3⟩:=zau hs g h1;exact ⟨znW g1 m (zcf a1 zeG (za1 (zaf a3))) (za1 (zaf a3)),rfl⟩
    ·rename_i a b
     cases h1:shE rc nm N a with
     | none=>rw [h1] at h;cases h
     | some f =>
      rw [h1] at h
      cases h2:shE rc nm N b with
      | none=>rw [h2] at h;cases h
      | some f2 =>
       rw [h2] at h;cases h;obtain ⟨a1,_,a3⟩:=zau hs g h1;obtain ⟨b1,_,b3⟩:=zau hs g h2;have s1:=za1 (es:=[b]) (env:=X.env) (zaf a3);have s2:=za1 (es:=[]) (env:=X.env) (zaf b3);exact ⟨znV g1 m (zcf a1 (zcf b1 zeG s2) s1) (by rw [s1,s2];rfl) s2,rfl⟩
    ·cases h
   ·cases h
  split at h
  ·rename_i hx;subst hx;split at h
   ·rename_i hb;rw [yab,yab] at hb;obtain ⟨g1,_,_⟩:=g.glob hb.1.1;have m:=g.gok.blt _ hb.1.2;split at h
    ·rename_i a
     cases h1:shE rc nm N a with
     | none=>rw [h1] at h;cases h
     | some f =>
      rw [h1] at h;cases h;obtain ⟨a1,_,a3⟩:=zau hs g h1
      cases tg with
      | Tuple es kk tp=>exact ⟨znY g1 m (zcf a1 zeG (za1 (zaf a3))) (za1 (zaf a3)),rfl⟩
      | _=>cases hb.2
    ·cases h
   ·cases h
  split at h
  ·rename_i hx;subst hx;split at h
   ·rename_i hb;rw [yab,yab] at hb;obtain ⟨g1,_,_⟩:=g.glob hb.1.1;have m:=g.gok.blt _ hb.1.2;split at h
    ·rename_i a b
     cases h1:shE rc nm N a with
     | none=>rw [h1] at h;cases h
     | some f =>
      rw [h1] at h
      cases h2:shE rc nm N b with
      | none=>rw [h2] at h;cases h
      | some f2 =>
       rw [h2] at h;cases h;obtain ⟨a1,_,a3⟩:=zau hs g h1;obtain ⟨b1,_,b3⟩:=zau hs g h2;have s1:=za1 (es:=[b]) (env:=X.env) (zaf a3);have s2:=za1 (es:=[]) (env:=X.env) (zaf b3)
       cases tg with
       | Tuple es kk tp=>exact ⟨zqg g1 m (zcf a1 (zcf b1 zeG s2) s1) s1 (za4 (by simp [zaf b3])),rfl⟩
       | _=>cases hb.2
    ·cases h
   ·cases h
  ·exact gen h
 ·exact gen h
def ztn(hs:zaM cl G k rc)(g:Gx cl G k X nm N E){x:Str}{args:List Expr}{p pos:Pos}{o:Bool}{f:Fe}(h:spG G rc nm N x args=some (o,f)):(o=true->PE X (.Call (.Name x p) args [] pos) (tN cl E f))/\PE X (.Call (.Name x p) args [] pos) (tE cl E f):=by
 unfold spG at h
 cases hc:spA args with
 | none=>rw [hc] at h;cases h
 | some c =>
 rw [hc] at h;obtain rfl:=zqe hc;obtain ⟨y,a,p2,pos2⟩:=c;dsimp only [Option.bind] at h ⊢;clear hc;split at h
 ·rename_i hb;simp only [yab,yaM] at hb;obtain ⟨⟨⟨⟨⟨rfl,rfl⟩,b1⟩,b2⟩,b3⟩,b4⟩:=hb;obtain ⟨g1,_,_⟩:=g.glob b1;obtain ⟨g2,_,_⟩:=g.glob b3
  cases h1:shE rc nm N a with
  | none=>rw [h1] at h;cases h
  | some fa =>
   rw [h1] at h;cases h;obtain ⟨a1,_,a3⟩:=zau hs g h1;have n:=zn2 (p:=p) (p2:=p2) (pos:=pos) (pos2:=pos2) g.calm g.kk g1 (g.gok.blt _ b2) g2 (g.gok.blt _ b4) a1 (za1 (zaf a3));exact ⟨fun _=>n,zb9 n⟩
 ·cases h
noncomputable def itF:List Expr->Option (Str×Pos×Str×Pos×Pos) | [.Call (.Attribute (.Name x px) m ap) [] [] cp]=>some (x,px,m,ap,cp) | _=>none
def zrK{args:List Expr}{x:Str×Pos×Str×Pos×Pos}(h:itF args=some x):args=[.Call (.Attribute (.Name x.1 x.2.1) x.2.2.1 x.2.2.2.1) [] [] x.2.2.2.2]:=by
 unfold itF at h;split at h
 ·cases h;rfl
 ·cases h
noncomputable def itG(G:Genv)(nm:Names)(N:List Str)(x:Str)(args:List Expr):Option (Bool×Fe):=(itF args).bind fun c=>if decide (x = "sorted")&&decide (c.2.2.1 = "items")&&(c.2.2.2.1.endLine == c.2.2.2.2.line)&&zbE nm "sorted" && G.blt "sorted" then (zbp nm N c.1).bind fun i=>some (true,zpC i) else none
noncomputable def srG(G:Genv)(rc:Rec)(nm:Names)(N:List Str)(x:Str)(args:List Expr):Option (Bool×Fe):=match itG G nm N x args with | some p=>some p | none=>none
def ztm(hs:zaM cl G k rc)(g:Gx cl G k X nm N E){x:Str}{args:List Expr}{p pos:Pos}{o:Bool}{f:Fe}(h:srG G rc nm N x args=some (o,f)):(o=true->PE X (.Call (.Name x p) args [] pos) (tN cl E f))/\PE X (.Call (.Name x p) args [] pos) (tE cl E f):=by
 unfold srG at h;split at h
 ·rename_i hit;cases h;unfold itG at hit;obtain ⟨c,e0,hz⟩:=obs hit;clear hit;rw [zrK e0];split at hz
  ·rename_i hb;simp only [yab,yaM] at hb;obtain ⟨⟨⟨⟨rfl,b0⟩,hln⟩,b1⟩,b2⟩:=hb;obtain ⟨g1,_,_⟩:=g.glob b1;obtain ⟨i,h1,h⟩:=obs hz;cases h;obtain ⟨n1,n2,n3,n4⟩:=g.slot h1;rw [b0];have n:=zqu (cl:=cl) (E:=E) (p:=p) (px:=c.2.1) (pos:=pos) g.calm g1 (g.gok.blt _ b2) n1 n2 n3 n4 hln;exact ⟨fun _=>n,zb9 n⟩
  ·cases hz
 ·cases h
end
section
variable{cl:Cf}{G:Genv}{k:Nat}{rc:Rec}{X:Cx}{nm:Names}{N:List Str}{E:St->XK}
noncomputable def zm2:Expr->Bool | .Name _ _=>true | .Call (.Name _ _) (_::_) _ _=>true | .Attribute (.Name _ _) _ _=>true | _=>false
noncomputable def zoI(G:Genv)(rc:Rec)(nm:Names)(N:List Str)(o:Expr)(m:Str)(ap cp:Pos)(args:List Expr)(kws:List Keyword):Option (Bool×Fe) :=
 if kws.isEmpty&&zm2 o&&(ap.endLine == cp.line)&&decide (args.length<30) then (G.ob.mt m).bind fun c=>if args.length+1=c.2.ar then (shE rc nm N o).bind fun fo=>(shL rc nm N args).bind fun fs=>some (c.2.own,zgn c.1 m c.2.run fo fs) else none else none
noncomputable def mkG(G:Genv)(rc:Rec)(nm:Names)(N:List Str)(x:Str)(args:List Expr):Option (Bool×Fe) :=
 if zbE nm x&&!args.isEmpty then (G.ob.mks x).bind fun c=>(shL rc nm N args).bind fun fs =>
  if args.length+1=c.2.ar then some (false,eMk x [] c.2.run fs) else if args.length+c.1.length+1=c.2.ar then some (false,eMk x c.1 c.2.run fs) else none
 else none
noncomputable def zfq:Expr->Bool | .Name _ _=>true | _=>false
noncomputable def zuj(G:Genv)(rc:Rec)(nm:Names)(N:List Str)(o:Expr)(f:Str):Option (Bool×Fe):=if zfq o&&!G.ob.df f&&G.ob.fk G.ob.cur f then (shE rc nm N o).map fun fo=>(false,zpa G.ob.cur f fo) else none
noncomputable def zuu:Expr->Option (Expr×Str×Pos) | .Attribute o m p=>some (o,m,p) | _=>none
def zkY{e:Expr}{x:Expr×Str×Pos}(h:zuu e=some x):e=.Attribute x.1 x.2.1 x.2.2:=by cases e<;>first | (cases h;done) | (cases h;rfl)
noncomputable def nmF:Expr->Option (Str×Pos) | .Name x p=>some (x,p) | _=>none
def zhP{e:Expr}{x:Str×Pos}(h:nmF e=some x):e=.Name x.1 x.2:=by cases e<;>first | (cases h;done) | (cases h;rfl)
noncomputable def znl:List CmpOp->Bool | [.NotIn]=>true | _=>false
noncomputable def zvG:List Expr->Option Expr | [a]=>some a | _=>none
noncomputable def zoC(G:Genv)(rc:Rec)(nm:Names)(N:List Str)(a:Expr)(ops:List CmpOp)(bs:List Expr):Option (Bool×Fe) :=
 if znl ops then (zvG bs).bind fun b=>(zuu b).bind fun t=>if zfq t.1&&G.ob.df t.2.1&&G.ob.fk G.ob.cur t.2.1 then (shE rc nm N a).bind fun fa=>(shE rc nm N t.1).bind fun fo=>some (false,zo9 G.ob.cur t.2.1 fa fo) else none else none
noncomputable def zuf(G:Genv)(rc:Rec)(nm:Names)(N:List Str)(a i:Expr):Option (Bool×Fe) :=
 (zuu a).bind fun t=>if zfq t.1&&G.ob.df t.2.1&&G.ob.fk G.ob.cur t.2.1 then (nmF i).bind fun x=>(zbp nm N x.1).bind fun j=>(shE rc nm N t.1).bind fun fo=>some (false,zkE G.ob.cur t.2.1 fo j) else none
def Gx.same(g:Gx cl G k X nm N E):Same' cl X:=⟨g.kk,g.pp,g.ww⟩
def Gx.u16(g:Gx cl G k X nm N E):X.A.units+16<cLine:=Nat.lt_of_le_of_lt (Nat.add_le_add_left (by decide) _) g.units
def zas{α β:Type}{o:Option α}{f:α->Option β}{b:β}(h:o.bind f=some b):∃a,o=some a/\f a=some b:=by
 cases o with
 | none=>cases h
 | some a=>exact ⟨a,rfl,h⟩
def zrS(hs:zaM cl G k rc)(g:Gx cl G k X nm N E){o:Expr}{f:Str}{pos:Pos}{w:Bool}{fe:Fe}(h:zuj G rc nm N o f=some (w,fe)):w=false/\PE X (.Attribute o f pos) (tE cl E fe):=by
 unfold zuj at h;split at h
 ·rename_i hc;rw [yab,yab] at hc
  cases h1:shE rc nm N o with
  | none=>rw [h1] at h;cases h
  | some fo =>
   rw [h1] at h;cases h;refine ⟨rfl,zqv (g.gok.fk _ _ hc.2) g.kk (zau hs g h1).1 ?_⟩
   cases o<;>first | rfl | cases hc.1.1
 ·cases h
def zoE(hs:zaM cl G k rc)(g:Gx cl G k X nm N E){a:Expr}{ops:List CmpOp}{bs:List Expr}{pos:Pos}{w:Bool}{fe:Fe}(h:zoC G rc nm N a ops bs=some (w,fe)):w=false/\PE X (.Compare a ops bs pos) (tE cl E fe)/\PT X (.Compare a ops bs pos) (tTr cl E fe):=by
 unfold zoC at h;split at h
 ·rename_i hn
  have eo:ops=[.NotIn]:=by
   unfold znl at hn;split at hn
   ·rfl
   ·cases hn
  subst eo;obtain ⟨b,h1,hz⟩:=zas h;obtain ⟨t,h2,hy⟩:=zas hz
  have eb:bs=[b]:=by
   unfold zvG at h1;split at h1
   ·cases h1;rfl
   ·cases h1
  have e2:=zkY h2;clear h hz h1 h2;subst eb;subst e2;obtain ⟨o,f,ap⟩:=t;dsimp only at hy ⊢;split at hy
  ·rename_i hc;rw [yab,yab] at hc;obtain ⟨fa,h3,hy⟩:=zas hy;obtain ⟨fo,h4,hy⟩:=zas hy;cases hy
   have hb:attributeBase o f X.env (eval o X.env)=eval o X.env:=by cases o<;>first | rfl | cases hc.1.1
   exact ⟨rfl,zqr g.u16 g.same (g.gok.fk _ _ hc.2) (zau hs g h3).1 (zau hs g h4).1 hb rfl,zp5 g.u16 g.same (g.gok.fk _ _ hc.2) (zau hs g h3).1 (zau hs g h4).1 hb rfl⟩
  ·cases hy
 ·cases h
noncomputable def ztN(G:Genv)(rc:Rec)(nm:Names)(N:List Str)(a:Expr)(ops:List CmpOp)(bs:List Expr):Option (Bool×Fe):=zoC G rc nm N a ops bs
def zrp(hs:zaM cl G k rc)(g:Gx cl G k X nm N E){a:Expr}{ops:List CmpOp}{bs:List Expr}{pos:Pos}{w:Bool}{fe:Fe}(h:ztN G rc nm N a ops bs=some (w,fe)):w=false/\PE X (.Compare a ops bs pos) (tE cl E fe)/\PT X (.Compare a ops bs pos) (tTr cl E fe):=by
 unfold ztN at h;exact zoE hs g h
def zrP(hs:zaM cl G k rc)(g:Gx cl G k X nm N E){a i:Expr}{pos:Pos}{w:Bool}{fe:Fe}(h:zuf G rc nm N a i=some (w,fe)):w=false/\PE X (.Subscript a i pos) (tE cl E fe):=by
 unfold zuf at h;obtain ⟨t,h2,hz⟩:=zas h;have e2:=zkY h2;clear h h2;subst e2;obtain ⟨o,f,ap⟩:=t;dsimp only at hz ⊢;split at hz
 ·rename_i hc;rw [yab,yab] at hc;obtain ⟨x,h3,hz⟩:=zas hz;obtain ⟨j,h4,hz⟩:=zas hz;obtain ⟨fo,h5,hz⟩:=zas hz;cases hz;have e3:=zhP h3;clear h3;subst e3;obtain ⟨s1,s2,s3,s4⟩:=g.slot h4;refine ⟨rfl,zn6 s1 s2 s3 s4 g.u16 g.same (g.gok.fk _ _ hc.2) (zau hs g h5).1 ?_ (fun _ _=>rfl)⟩
  cases o<;>first | rfl | cases hc.1.1
 ·cases hz
def zyu{pos:Pos}{env:PySem.Env}{args:List Expr}(hp:args.all zbf=true)(hl:args.length<30):methodCallForm (args.length+0) (backTo pos (starEach args env)) (backToKw pos (keywordEach [] env))=true:=by
 have h:=za4 (pos:=pos) (env:=env) hp;unfold methodCallForm
 have h1:(backTo pos (starEach args env)).all (!·.1)=true:=by
  rw [List.all_eq_not_any_not];simpa using h
 rw [h1];show (true&&true&&decide (args.length+0+0<30))=true;rw [yaQ (by omega)];rfl
def zjX{o:Expr}{m:Str}{ap pos:Pos}{env:PySem.Env}{args:List Expr}(hb:attributeBase o m env (eval o env)=eval o env)(hf:methodCallForm (args.length+0) (backTo pos (starEach args env)) (backToKw pos (keywordEach [] env))=true)(hp:(ap.endLine == pos.line)=true) :
  eval (.Call (.Attribute o m ap) args [] pos) env=(do
   let ov ← eval o env
   standAt ap.atName
   let (f,first) ← holding [ov] (getMethod ov m (do return (← importBound o env).getD true))
   callWith pos f first (backTo pos (starEach args env)) (backToKw pos (keywordEach [] env))):=by
 show (do
  let ov ← attributeBase o m env (eval o env)
  standAt ap.atName
  methodCall o m ap pos env ov (args.length+0) (backTo pos (starEach args env)) (backToKw pos (keywordEach [] env)))=_
 rw [hb]
 have e:∀ov,methodCall o m ap pos env ov (args.length+0) (backTo pos (starEach args env)) (backToKw pos (keywordEach [] env))=(do
   let (f,first) ← holding [ov] (getMethod ov m (do return (← importBound o env).getD true))
   callWith pos f first (backTo pos (starEach args env)) (backToKw pos (keywordEach [] env))):=fun ov=>by
  unfold methodCall calleeOf methodCallPos;rw [hf,hp];rfl
 simp only [e]
def zoH(hs:zaM cl G k rc)(g:Gx cl G k X nm N E){o:Expr}{m:Str}{args:List Expr}{kws:List Keyword}{ap pos:Pos}{w:Bool}{fe:Fe}(h:zoI G rc nm N o m ap pos args kws=some (w,fe)):(w=true->PE X (.Call (.Attribute o m ap) args kws pos) (tN cl E fe))/\PE X (.Call (.Attribute o m ap) args kws pos) (tE cl E fe):=by
 unfold zoI at h;split at h
 ·rename_i hc;simp only [yab,yaM] at hc;obtain ⟨⟨⟨z1,z2⟩,z3⟩,z4⟩:=hc;obtain rfl:=ybI.mp z1;obtain ⟨⟨c,fi⟩,h1,h⟩:=zas h;dsimp only at h;split at h
  ·rename_i hl;obtain ⟨fo,h2,h⟩:=zas h;obtain ⟨fs,h3,h⟩:=zas h;cases h;obtain ⟨f,fd,ps,c1,c2,c3,c4⟩:=g.gok.mt m c fi h1;obtain ⟨a1,a2,a3⟩:=zd4 hs g h3
   have hlen:fs.length+1=fi.ar:=by rw [a3];exact hl
   have hb:attributeBase o m X.env (eval o X.env)=eval o X.env:=by
    unfold zm2 at z2
    split at z2<;>first | rfl | cases z2
   have ht:=zjX (ap:=ap) hb (zyu (pos:=pos) a2 z4) z3
   have main:PE X (.Call (.Attribute o m ap) args [] pos) (zfO (cl c) m (zik cl fi.ar fi.own fi.run) [] E (tE cl E fo) (tAs cl E fs)):=by
    cases args with
    | nil =>
     cases h3;refine PE.imp (zjL (zau hs g h2).1 c1 c2 c4 g.room c3 .nil g.pass ht) ?_;rintro σ H Q ⟨B,w,ρ,S,rfl,R,q⟩;refine ⟨B,w,ρ,S,rfl,R,?_⟩
     cases hfo:fo ρ S with
     | bad=>rwa [hfo] at q
     | exc c S1=>rwa [hfo] at q
     | ok d S1 =>
      rw [hfo] at q;intro v w1 R1 F1 sh;obtain ⟨a,dx,fs,e1,e2,e3,B',w',ρ',S',e4,R',q⟩:=q v w1 R1 F1 sh;refine ⟨a,dx,fs,e1,e2,e3,?_⟩;have:=q [] w' R' (Fut.refl _) .nil;rwa [e4] at this
    | cons e es =>
     rw [ybp,yab] at a2;exact zlD (zau hs g h2).1 c1 c2 c4 g.room c3 .nil g.pass a1 (za1 a2.1) (za4 a2.2) ht
   cases ho:fi.own with
   | false =>
    rw [ho] at main;exact ⟨(fun z=>by cases z),PE.imp main fun _ _ _ q=>zrt q hlen⟩
   | true =>
    rw [ho] at main;have n:=PE.imp main fun _ _ _ q=>zrs q hlen
    exact ⟨fun _=>n,zb9 n⟩
  ·cases h
 ·cases h
def ztO(hs:zaM cl G k rc)(g:Gx cl G k X nm N E){x:Str}{args:List Expr}{p pos:Pos}{w:Bool}{fe:Fe}(h:mkG G rc nm N x args=some (w,fe)):w=false/\PE X (.Call (.Name x p) args [] pos) (tE cl E fe):=by
 unfold mkG at h;split at h
 ·rename_i hc;rw [yab] at hc;obtain ⟨⟨dds,fi⟩,h1,h⟩:=zas h;obtain ⟨fs,h2,h⟩:=zas h;dsimp only at h;obtain ⟨f,fd,ps,dvs,ds,k',hk,mC,M,B0,BD,vd,sd,F⟩:=g.gok.mks x dds fi h1;obtain ⟨a1,a2,a3⟩:=zd4 hs g h2;obtain ⟨g1,g2,g3⟩:=g.glob hc.1
  cases args with
  | nil=>cases hc.2
  | cons e es =>
   rw [ybp,yab] at a2;have hr:Room (k'+1) X.A:=g.room.mono hk;split at h
   ·rename_i hl;cases h;exact ⟨rfl,PE.imp (zhF M F hr g1 mC B0 .nil g.pass a1 g2 (za1 a2.1) (za4 a2.2)) fun _ _ _ q=>zvJ (dds:=[]) (fun _=>.nil) q (by rw [a3];exact hl)⟩
   ·split at h
    ·rename_i hl;cases h;exact ⟨rfl,PE.imp (zhF M F hr g1 mC BD vd g.pass a1 g2 (za1 a2.1) (za4 a2.2)) fun _ _ _ q=>zvJ sd q (by rw [a3];exact hl)⟩
    ·cases h
 ·cases h
end
end S2
namespace S2
open PySem PySem.Spec PyProof.Rows L2
noncomputable def zrr:Expr->Option Str | .Name x _=>some x | _=>none
noncomputable def zua(df:Bool):Option NameKind->Bool | some .local=>true | some .cell=>df | _=>false
noncomputable def tgI(df:Bool)(nm:Names)(N:List Str)(n:Nat)(x:Str):Option Nat:=if zua df (nm.lookup x) then (idx N x).bind fun i=>if i<n then some i else none else none
noncomputable def zpv(df:Bool)(nm:Names)(N:List Str)(n:Nat):List Expr->Option (List Nat)
 | []=>some []
 | .Name x _::es=>(tgI df nm N n x).bind fun i=>(zpv df nm N n es).bind fun is=>some (i::is)
 | _::_=>none
noncomputable def tgG(df:Bool)(nm:Names)(N:List Str)(n:Nat):Expr->Option Tg
 | .Name x _=>(tgI df nm N n x).map .one
 | .Tuple es _ _=>(zpv df nm N n es).map .tup
 | _=>none
structure Sto'(X:Cx)(nm:Names)(df:Bool):Prop where
 fn:df=true->∀x,nm.lookup x=some .cell->X.fn x=true
section
variable{cl:Cf}{G:Genv}{k:Nat}{X:Cx}{nm:Names}{N:List Str}{E:St->XK}{df:Bool}{n:Nat}
def zd3(g:Gx cl G k X nm N E)(sd:Sto' X nm df){x:Str}{i:Nat}(h:tgI df nm N n x=some i):i<n/\X.N.Nodup/\X.N[i]?=some x/\Loc X.env.scope x/\(X.fn x=true\/X.env.scope.names.lookup x=some .local):=by
 unfold tgI at h;split at h
 ·rename_i hl
  cases hi:idx N x with
  | none=>rw [hi] at h;cases h
  | some j =>
   rw [hi] at h;dsimp only [Option.bind] at h;split at h
   ·rename_i hn;cases h;refine ⟨hn,by rw [g.eN];exact g.nd,by rw [g.eN];exact zft hi,?_,?_⟩
    ·cases hk:nm.lookup x with
     | none=>rw [hk] at hl;cases hl
     | some kd =>
      obtain ⟨kd',e,z⟩:=g.vis x kd hk;rw [hk] at hl;unfold L2.Loc;rw [e]
      rcases z with rfl | ⟨rfl,_⟩
      ·cases kd'<;>first | exact .inl rfl | exact .inr rfl | cases hl
      ·cases hl
    ·cases hk:nm.lookup x with
     | none=>rw [hk] at hl;cases hl
     | some kd =>
      rw [hk] at hl
      cases kd<;>first | exact .inr (g.fnx x hk) | exact .inl (sd.fn hl x hk) | cases hl
   ·cases h
 ·cases h
theorem zi0(g:Gx cl G k X nm N E)(sd:Sto' X nm df):∀{es:List Expr} {is:List Nat},zpv df nm N n es=some is->PGs X es (tGs cl n is)/\(assignEach es X.env).length=is.length/\(assignEach es X.env).findIdx? (·.1)=none
 | [],is,h=>by cases h;exact ⟨znZ,rfl,rfl⟩
 | e::es,is,h=>by
  cases e with
  | Name x pos =>
   unfold zpv at h
   cases h1:tgI df nm N n x with
   | none=>rw [h1] at h;cases h
   | some i =>
    rw [h1] at h
    cases h2:zpv df nm N n es with
    | none=>rw [h2] at h;cases h
    | some is' =>
     rw [h2] at h;cases h;obtain ⟨a1,a2,a3,a4,a5⟩:=zd3 g sd h1;obtain ⟨b1,b2,b3⟩:=zi0 g sd h2;refine ⟨zlj a1 a2 a3 a4 a5 b1,?_,?_⟩
     ·show (assignEach es X.env).length+1=_;rw [b2];rfl
     ·show ((false,assign (.Name x pos) X.env)::assignEach es X.env).findIdx? (·.1)=none;rw [List.findIdx?_cons];simp [b3]
  | _=>cases h
def znA(g:Gx cl G k X nm N E)(sd:Sto' X nm df){tg:Expr}{t:Tg}(h:tgG df nm N n tg=some t):PG X tg (tG cl n t):=by
 unfold tgG at h;split at h
 ·rename_i x pos
  cases h1:tgI df nm N n x with
  | none=>rw [h1] at h;cases h
  | some i =>
   rw [h1] at h;cases h;obtain ⟨a1,a2,a3,a4,a5⟩:=zd3 g sd h1;exact zql a1 a2 a3 a4 a5
 ·rename_i es kk pos
  cases h1:zpv df nm N n es with
  | none=>rw [h1] at h;cases h
  | some is =>
   rw [h1] at h;cases h;obtain ⟨b1,b2,b3⟩:=zi0 g sd h1;exact zqk g.calm b1 b2 b3
 ·cases h
end
noncomputable def zaK:Expr->List Str
 | .Name x _=>[x]
 | .Tuple es _ _=>es.filterMap zrr
 | _=>[]
noncomputable def zaR(names:Names)(N:List Str):List (Str×Nat):=names.filterMap fun p=>if p.2=.free then (idx N p.1).map fun i=>(p.1,i) else none
noncomputable def zyn:Option NameKind->Bool | some .cell=>true | some .free=>true | _=>false
noncomputable def zkM(nm:Names)(scope:Scope)(xs:List Str)(caps:List (Str×Nat)):Bool :=
 decide (scope.kind=.function)&&decide ((scope.names.map (·.1)).Nodup)&&scope.names.all (fun y=>!decide (y.2=.local)||decide (scope.names.lookup y.1=some .local))
 && scope.names.all (fun y=>!decide (y.2=.free)||zyn (nm.lookup y.1))&&caps.all (fun p=>scope.names.all fun z=>!decide (z.1=p.1)||decide (z.2=.free))&&decide ((xs++caps.map (·.1)).Nodup)
noncomputable def zmA(rc:Rec)(nm:Names)(N:List Str):List Expr->Option Fe
 | []=>some zbT
 | [c]=>if zbg c then shE rc nm N c else none
 | _=>none
noncomputable def ziH(G:Genv)(rc:Rec)(nm:Names)(N:List Str)(elt:Expr)(g:Comprehension)(scope:Scope):Option Fe :=
 if decide (g.is_async=0)&&zkM nm scope (zaK g.target) (zaR scope.names N) then
  (ziB G rc nm N g.target g.iter).bind fun it =>
  (tgG true scope.names (zaK g.target++(zaR scope.names N).map (·.1)) (zaK g.target).length g.target).bind fun t =>
  (zmA rc scope.names (zaK g.target++(zaR scope.names N).map (·.1)) g.ifs).bind fun c =>
  (shE rc scope.names (zaK g.target++(zaR scope.names N).map (·.1)) elt).bind fun el =>
  some (zbj (zaK g.target).length t it c el ((zaR scope.names N).map (·.2)))
 else none
theorem zcI{scope:Scope}{env:PySem.Env}:∀{names:Names} {x:Str} {kd:NameKind},names.lookup x=some kd →
  ∃kd',(names.map fun (n,k)=>if (k == NameKind.free&&env.scope.kind == .function&&env.kindOf n == some .cell) then (n,NameKind.cell) else (n,k)).lookup x=some kd'/\(kd'=kd\/(kd=.free/\kd'=.cell))
 | [],_,_,h=>by cases h
 | (n,k0)::r,x,kd,h=>by
  rw [yaz] at h;rw [yau];dsimp only
  by_cases hc:(k0 == NameKind.free&&env.scope.kind == .function&&env.kindOf n == some .cell)=true
  ·rw [if_pos hc,yaz]
   cases hx:x == n with
   | true =>
    rw [hx] at h;cases h;simp only [yab,ycm] at hc;exact ⟨_,rfl,.inr ⟨hc.1.1,rfl⟩⟩
   | false=>rw [hx] at h;exact zcI (scope:=scope) h
  ·rw [if_neg hc,yaz]
   cases hx:x == n with
   | true=>rw [hx] at h;cases h;exact ⟨_,rfl,.inl rfl⟩
   | false=>rw [hx] at h;exact zcI (scope:=scope) h
section
variable{cl:Cf}{G:Genv}{k:Nat}{rc:Rec}{X:Cx}{nm:Names}{N:List Str}{E:St->XK}
def ziG(g:Gx cl G k X nm N E){scope:Scope}{xs:List Str}(h:zkM nm scope xs (zaR scope.names N)=true):CompScopeG X.env.scope scope X.N xs (zaR scope.names N)/\(xs++(zaR scope.names N).map (·.1)).Nodup:=by
 unfold zkM at h;simp only [yab,ybf,yaM,ycf,ybh,ybG] at h;obtain ⟨⟨⟨⟨⟨h1,h2⟩,h3⟩,h4⟩,h5⟩,h6⟩:=h
 have fr:∀y∈scope.names,y.2=.free->X.env.scope.names.lookup y.1=some .cell\/X.env.scope.names.lookup y.1=some .free:=fun y hy hf=>by
  rcases h4 y hy with z | z
  ·exact absurd hf z
  ·cases hk:nm.lookup y.1 with
   | none=>rw [hk] at z;cases z
   | some kd =>
    obtain ⟨kd',e,zz⟩:=g.vis y.1 kd hk;rw [hk] at z;rw [e]
    rcases zz with rfl | ⟨_,rfl⟩
    ·cases kd'<;>first | exact .inl rfl | exact .inr rfl | cases z
    ·exact .inl rfl
 refine ⟨⟨h2,h1,fun y hy hl=>(h3 y hy).elim (fun z=>absurd hl z) fun z=>z,fr,fun p hp=>?_,fun p hp z hz e=>(h5 p hp z hz).elim (fun w=>absurd e w) fun w=>w⟩,h6⟩;unfold zaR at hp;obtain ⟨q,hq,e⟩:=ybM.mp hp;split at e
 ·rename_i hf
  cases hi:idx N q.1 with
  | none=>rw [hi] at e;cases e
  | some i =>
   rw [hi] at e;have e':(q.1,i)=p:=Option.some.inj e;subst e';refine ⟨by rw [g.eN];exact zft hi,by rw [<-hf];exact hq,?_⟩
   rcases fr q hq hf with z | z<;>rw [z]<;>exact fun w=>by cases w
 ·cases e
def zfs(g:Gx cl G k X nm N E){scope:Scope}{xs:List Str}(hn:(xs++(zaR scope.names N).map (·.1)).Nodup)(cl':List (Str×Addr))(C:Addr)(s:Shared)(H:Hp)(fp:List Addr) :
  Gx cl G k (zaL X xs (zaR scope.names N) scope cl' C s H fp) scope.names (xs++(zaR scope.names N).map (·.1)) noE where
 gok:=g.gok
 room:=g.room
 calm:=g.calm
 pass:=fun pins σ H s e s' I q=>by
  obtain ⟨a,cls,a0,H',B,_,_,_,_,_,_,_,_,_,z⟩:=q;exact z.elim
 eN:=rfl
 kk:=g.kk
 pp:=g.pp
 ww:=g.ww
 nd:=hn
 vis:=fun x kd h=>zcI (scope:=scope) h
 fnx:=fun x h=>lookup_relabel_local h
def zpd(hs:zaM cl G k rc)(g:Gx cl G k X nm N noE){ifs:List Expr}{c:Fe}(h:zmA rc nm N ifs=some c):PIf X ifs (tTr cl noE c):=by
 unfold zmA at h;split at h
 ·cases h;intro pins s σ H Q I q;obtain ⟨B,w,ρ,S,rfl,R,q⟩:=q;exact zom pins s σ w.H Q I (q w R (Fut.refl _))
 ·split at h
  ·rename_i c ht;obtain ⟨_,a2,_⟩:=zau hs g h;exact zol (a2 ht)
  ·cases h
 ·cases h
def zeR(hs:zaM cl G k rc)(g:Gx cl G k X nm N E){elt:Expr}{gg:Comprehension}{scope:Scope}{f:Fe}(h:ziH G rc nm N elt gg scope=some f) :
  ∃it t c el,f=zbj (zaK gg.target).length t it c el ((zaR scope.names N).map (·.2))/\gg=⟨gg.target,gg.iter,gg.ifs,0⟩/\CompScopeG X.env.scope scope X.N (zaK gg.target) (zaR scope.names N)/\PI X gg.target gg.iter (tI cl E it)/\okE gg.iter=true ∧
   (∀cl' C s H fp,PG (zaL X (zaK gg.target) (zaR scope.names N) scope cl' C s H fp) gg.target (tG cl (zaK gg.target).length t)) ∧
   (∀cl' C s H fp,PIf (zaL X (zaK gg.target) (zaR scope.names N) scope cl' C s H fp) gg.ifs (tTr cl noE c)) ∧
   ∀cl' C s H fp,PE (zaL X (zaK gg.target) (zaR scope.names N) scope cl' C s H fp) elt (tE cl noE el):=by
 unfold ziH at h;split at h
 ·rename_i hc;rw [yab] at hc;obtain ⟨S,hn⟩:=ziG g hc.2
  cases h1:ziB G rc nm N gg.target gg.iter with
  | none=>rw [h1] at h;cases h
  | some it =>
   rw [h1] at h;dsimp only [Option.bind] at h
   cases h2:tgG true scope.names (zaK gg.target++(zaR scope.names N).map (·.1)) (zaK gg.target).length gg.target with
   | none=>rw [h2] at h;cases h
   | some t =>
    rw [h2] at h;dsimp only at h
    cases h3:zmA rc scope.names (zaK gg.target++(zaR scope.names N).map (·.1)) gg.ifs with
    | none=>rw [h3] at h;cases h
    | some c =>
     rw [h3] at h;dsimp only at h
     cases h4:shE rc scope.names (zaK gg.target++(zaR scope.names N).map (·.1)) elt with
     | none=>rw [h4] at h;cases h
     | some el =>
      rw [h4] at h;cases h;obtain ⟨i1,i2⟩:=zkf hs g (tg:=gg.target) h1;refine ⟨it,t,c,el,rfl,?_,S,i1,i2,fun cl' C s H fp=>znA (zfs g hn cl' C s H fp) ⟨fun _ x hx=>yaQ hx⟩ h2,fun cl' C s H fp=>zpd hs (zfs g hn cl' C s H fp) h3,fun cl' C s H fp=>(zau hs (zfs g hn cl' C s H fp) h4).1⟩;have:=yah hc.1;cases gg;simp only at this;rw [this]
 ·cases h
def zkK(hs:zaM cl G k rc)(g:Gx cl G k X nm N E){elt:Expr}{gg:Comprehension}{scope:Scope}{f:Fe}{pos:Pos}(h:ziH G rc nm N elt gg scope=some f):PE X (.ListComp elt [gg] scope pos) (tN cl E f):=by
 obtain ⟨it,t,c,el,rfl,eg,S,i1,i2,i3,i4,i5⟩:=zeR hs g h;rw [eg];exact PE.imp (zlI g.calm S i1 i3 i4 i5 (zfh i2)) fun _ _ _ q=>zns q
end
noncomputable def zwI:Expr->Bool | .Slice _ _ _ _=>false | _=>true
noncomputable def zss(rc:Rec)(nm:Names)(N:List Str):Option Expr->Option (Option Fe)
 | none=>some none
 | some e=>(opE rc nm N e).map some
noncomputable def zvI(m:Str):Option (List D->D->Option D):=if m = "count" then some zdm else if m = "index" then some zgh else none
def zkJ:∀(l:List D) (d r:D),zdm l d=some r->∃n,r=.int n:=by
 intro l d r h;unfold zdm at h;split at h
 ·cases h;exact ⟨_,rfl⟩
 ·cases h
def zkm:∀(l:List D) (d r:D),zgh l d=some r->∃n,r=.int n:=by
 intro l d r h;unfold zgh at h;split at h
 ·cases h;exact ⟨_,rfl⟩
 ·cases h
noncomputable def unG(rc:Rec)(nm:Names)(N:List Str)(a:Expr):UnaryOp->Option (Bool×Fe)
 | .Not=>if zbg a then (shE rc nm N a).map fun f=>(false,eUn zfl f) else none
 | .USub=>(opE rc nm N a).map fun f=>(false,eUn zpA f)
 | _=>none
noncomputable def zr2(rc:Rec)(nm:Names)(N:List Str)(a:Expr):List CmpOp->List Expr->Option (Bool×Fe)
 | [op],[b]=>(zr3 op b).bind fun g=>(opE rc nm N a).bind fun f=>(opE rc nm N b).bind fun h=>some (false,zai g f h)
 | [op,op'],[b,c]=>(zr3 op b).bind fun g=>(zr3 op' c).bind fun g'=>(opE rc nm N a).bind fun f=>(opE rc nm N b).bind fun h=>(opE rc nm N c).bind fun k=>some (false,zcb g g' f h k)
 | _,_=>none
noncomputable def zvA(rc:Rec)(nm:Names)(N:List Str)(a:Expr):Expr->Option (Bool×Fe)
 | .Slice lo hi none _=>(opE rc nm N a).bind fun f=>(zss rc nm N lo).bind fun l=>(zss rc nm N hi).bind fun u=>some (false,eSl f l u)
 | i=>if zwI i then (opE rc nm N a).bind fun f=>(opE rc nm N i).bind fun h=>some (false,zai ixD f h) else none
noncomputable def zwO(rc:Rec)(nm:Names)(N:List Str)(x m:Str)(ap cp:Pos):List Expr->List Keyword->Option (Bool×Fe)
 | [a],[]=>if ap.endLine == cp.line then (zbp nm N x).bind fun i=>(opE rc nm N a).bind fun f=>(zvI m).bind fun g=>some (false,eMt g i f) else none
 | [a,b],[]=>if decide (m = "get")&&(ap.endLine == cp.line) then (zbp nm N x).bind fun i=>(shE rc nm N a).bind fun f=>(shE rc nm N b).bind fun h=>some (false,zgo i f h) else none
 | _,_=>none
noncomputable def znt(G:Genv)(rc:Rec)(nm:Names)(N:List Str)(args:List Expr)(kws:List Keyword)(cp:Pos):Expr->Option (Bool×Fe)
 | .Attribute o m ap=>(match (nmF o).bind fun x=>zwO rc nm N x.1 m ap cp args kws with | some p=>some p | none=>zoI G rc nm N o m ap cp args kws)
 | .Name x _=>if kws.isEmpty then (match mkG G rc nm N x args with | some p=>some p | none=>(match spG G rc nm N x args with | some p=>some p | none=>(match srG G rc nm N x args with | some p=>some p | none=>zpi G rc nm N x args))) else none
 | _=>none
noncomputable def lcG(G:Genv)(rc:Rec)(nm:Names)(N:List Str)(elt:Expr)(scope:Scope):List Comprehension->Option (Bool×Fe)
 | [g]=>(ziH G rc nm N elt g scope).map fun f=>(true,f)
 | _=>none
noncomputable def zhc(G:Genv)(rc:Rec):Rec:=fun nm N e=>match e with
 | .Constant c _ _=>(zwM c).map fun d=>(false,zal d)
 | .Name x _=>(match zbp nm N x with
  | some i=>some (false,zac i)
  | none=>if zbE nm x then (G.con x).map fun d=>(false,zal d) else none)
 | .Tuple es _ _=>(shL rc nm N es).map fun fs=>(false,zg9 fs)
 | .List es _=>(shL rc nm N es).map fun fs=>(true,zkD fs)
 | .BinOp a op b _=>if zoW a&&zrL op then (opE rc nm N a).bind fun f=>(opE rc nm N b).bind fun h=>some (true,zai ziw f h) else (zus op).bind fun g=>(opE rc nm N a).bind fun f=>(opE rc nm N b).bind fun h=>some (false,zai g f h)
 | .UnaryOp op a _=>unG rc nm N a op
 | .BoolOp op es _=>(ziK rc nm N op es).map fun f=>(false,f)
 | .Compare a ops bs _=>(match ztN G rc nm N a ops bs with | some p=>some p | none=>zr2 rc nm N a ops bs)
 | .IfExp c a b _=>if zbg c then (shE rc nm N c).bind fun g=>(shE rc nm N a).bind fun f=>(shE rc nm N b).bind fun h=>some (false,eIf g f h) else none
 | .Subscript a i _=>(match zuf G rc nm N a i with | some p=>some p | none=>zvA rc nm N a i)
 | .Attribute o f _=>zuj G rc nm N o f
 | .Call f args kws cp=>znt G rc nm N args kws cp f
 | .ListComp elt gs scope _=>lcG G rc nm N elt scope gs
 | .Dict [] [] _=>some (true,zmt)
 | _=>none
noncomputable def zuo(G:Genv):Nat->Rec
 | 0=>fun _ _ _=>none
 | n+1=>zhc G (zuo G n)
section
variable{cl:Cf}{G:Genv}{k:Nat}{rc:Rec}
def zmf{i:Expr}(h:zwI i=true):zfF i:=by
 intro o j
 cases i<;>first | rfl | cases h
def zaa{α β:Type}{o:Option α}{f:α->Option β}{b:β}(h:o.bind f=some b):∃a,o=some a/\f a=some b:=by
 cases o with
 | none=>cases h
 | some a=>exact ⟨a,rfl,h⟩
def zaC{α β:Type}{o:Option α}{f:α->β}{b:β}(h:o.map f=some b):∃a,o=some a/\f a=b:=by
 cases o with
 | none=>cases h
 | some a=>exact ⟨a,rfl,Option.some.inj h⟩
def zhJ{X:Cx}{nm:Names}{N:List Str}{E:St->XK}(hs:zaM cl G k rc)(g:Gx cl G k X nm N E){o:Option Expr}{f:Option Fe}(h:zss rc nm N o=some f):PO X o (zsp cl E f):=by
 unfold zss at h;split at h
 ·cases h;exact zoj
 ·obtain ⟨a,h1,rfl⟩:=zaC h;exact zoi (zbJ hs g h1).1
def zmy(hs:zaM cl G k rc):zaM cl G k (zhc G rc):=by
 intro X nm N E g e o f h;unfold zhc at h;split at h
 ·obtain ⟨d,h1,h2⟩:=zaC h;cases h2;rename_i c kk pos
  have p:PE X (.Constant c kk pos) (tE cl E (zal d)):=by
   cases c<;>simp [zwM] at h1<;>subst h1
   ·exact zjj zq0 fun w=>.non
   ·exact zjj ztE fun w=>.bl _
   ·exact zjj zq3 fun w=>.int _
   ·exact zjj zqW fun w=>.str _
  exact ⟨(fun z=>by cases z),p,fun _=>zaN p (fun _=>rfl),rfl⟩
 ·rename_i x pos;split at h
  ·rename_i i hi;cases h;obtain ⟨h1,h2,h3,h4⟩:=g.slot hi;have p:PE X (.Name x pos) (tE cl E (zac i)):=zqn h1 h2 h3 h4;exact ⟨(fun z=>by cases z),p,fun _=>zaN p (fun _=>rfl),rfl⟩
  ·split at h
   ·rename_i hg;obtain ⟨d,h1,h2⟩:=zaC h;cases h2;obtain ⟨g1,g2,g3⟩:=g.glob hg;obtain ⟨v,u,m,r,sh⟩:=g.gok.con x d h1;have p:PE X (.Name x pos) (tE cl E (zal d)):=zjj (zop g1 m r g2) sh;exact ⟨(fun z=>by cases z),p,fun _=>zaN p (fun _=>rfl),rfl⟩
   ·cases h
 ·obtain ⟨fs,h1,h2⟩:=zaC h;cases h2;rename_i es kk pos;have p:PE X (.Tuple es kk pos) (tE cl E (zg9 fs)):=zqo (zd4 hs g h1).1;exact ⟨(fun z=>by cases z),p,fun _=>zaN p (fun _=>rfl),rfl⟩
 ·obtain ⟨fs,h1,h2⟩:=zaC h;cases h2;rename_i es pos;have p:PE X (.List es pos) (tN cl E (zkD fs)):=zqt (zd4 hs g h1).1;exact ⟨fun _=>p,zb9 p,fun _=>zaN (zb9 p) (fun _=>rfl),rfl⟩
 ·split at h
  ·rename_i a op b pos hm;obtain ⟨fa,h2,h⟩:=zaa h;obtain ⟨fb,h3,h⟩:=zaa h;cases h;rw [yab] at hm
   have ho:op=.Mult:=by cases op<;>first | rfl | cases hm.2
   subst ho;have p:PE X (.BinOp a .Mult b pos) (tN cl E (zai ziw fa fb)):=zn3 (zbJ hs g h2).1 (zbJ hs g h3).1;exact ⟨fun _=>p,zb9 p,fun _=>zaN (zb9 p) (fun _=>rfl),rfl⟩
  obtain ⟨gg,h1,h⟩:=zaa h;obtain ⟨fa,h2,h⟩:=zaa h;obtain ⟨fb,h3,h⟩:=zaa h;cases h;exact ⟨(fun z=>by cases z),zmY (znu h1) (zbJ hs g h2).1 (zbJ hs g h3).1,fun _=>zaN (zmY (znu h1) (zbJ hs g h2).1 (zbJ hs g h3).1) (fun _=>rfl),rfl⟩
 ·rename_i op a pos;unfold unG at h;split at h
  ·split at h
   ·rename_i ht;obtain ⟨fa,h1,h2⟩:=zaC h;cases h2;obtain ⟨a1,a2,_⟩:=zau hs g h1;exact ⟨(fun z=>by cases z),zqq a1,fun _=>zp4 (a2 ht),rfl⟩
   ·cases h
  ·obtain ⟨fa,h1,h2⟩:=zaC h;cases h2;have p:PE X (.UnaryOp .USub a pos) (tE cl E (eUn zpA fa)):=ztp zpM (zbJ hs g h1).1;exact ⟨(fun z=>by cases z),p,fun _=>zaN p (fun _=>rfl),rfl⟩
  ·cases h
 ·obtain ⟨fa,h1,h2⟩:=zaC h;cases h2;rename_i op es pos;obtain ⟨b1,b2⟩:=zkV hs g (pos:=pos) h1;exact ⟨(fun z=>by cases z),b1,fun _=>b2.pt,rfl⟩
 ·rename_i a ops bs pos;split at h
  ·rename_i p hp;obtain ⟨w,fe⟩:=p;cases h;obtain ⟨rfl,n1,n2⟩:=zrp hs g (pos:=pos) hp;exact ⟨(fun z=>by cases z),n1,fun _=>n2,rfl⟩
  unfold zr2 at h;split at h
  ·obtain ⟨gg,h1,h⟩:=zaa h;obtain ⟨fa,h2,h⟩:=zaa h;obtain ⟨fb,h3,h⟩:=zaa h;cases h;obtain ⟨a1,_⟩:=zbJ hs g h2;obtain ⟨b1,b2⟩:=zbJ hs g h3;exact ⟨(fun z=>by cases z),zqw (zeT g h1) a1 b1 (zec b2),fun _=>zp6 (zeT g h1) a1 b1 (zec b2),rfl⟩
  ·obtain ⟨gg,h1,h⟩:=zaa h;obtain ⟨gg',h1',h⟩:=zaa h;obtain ⟨fa,h2,h⟩:=zaa h;obtain ⟨fb,h3,h⟩:=zaa h;obtain ⟨fc,h4,h⟩:=zaa h;cases h;obtain ⟨a1,_⟩:=zbJ hs g h2;obtain ⟨b1,_⟩:=zbJ hs g h3;obtain ⟨c1,c2⟩:=zbJ hs g h4;have hm:∀{op op':CmpOp} {b c:Expr},okE c=true->lastMarks [op,op'] [b,c]=false:=fun h=>zec h
   exact ⟨(fun z=>by cases z),zll (zeT g h1) (zeT g h1') a1 b1 c1 (hm c2),fun _=>zlg (zeT g h1) (zeT g h1') a1 b1 c1 (hm c2),rfl⟩
  ·cases h
 ·split at h
  ·rename_i c a b pos ht;obtain ⟨fc,h1,h⟩:=zaa h;obtain ⟨fa,h2,h⟩:=zaa h;obtain ⟨fb,h3,h⟩:=zaa h;cases h;obtain ⟨_,c2,_⟩:=zau hs g h1;exact ⟨(fun z=>by cases z),zts (c2 ht) (zau hs g h2).1 (zau hs g h3).1,(fun z=>by cases z),rfl⟩
  ·cases h
 ·rename_i a i pos;split at h
  ·rename_i p hp;obtain ⟨w,fe⟩:=p;cases h;obtain ⟨rfl,n1⟩:=zrP hs g (pos:=pos) hp;exact ⟨(fun z=>by cases z),n1,fun _=>zaN n1 (fun _=>rfl),rfl⟩
  unfold zvA at h;split at h
  ·obtain ⟨fa,h1,h⟩:=zaa h;obtain ⟨fl,h2,h⟩:=zaa h;obtain ⟨fu,h3,h⟩:=zaa h;cases h;exact ⟨(fun z=>by cases z),zqp (zbJ hs g h1).1 (zhJ hs g h2) (zhJ hs g h3),fun _=>zaN (zqp (zbJ hs g h1).1 (zhJ hs g h2) (zhJ hs g h3)) (fun _=>rfl),rfl⟩
  ·split at h
   ·rename_i hix;obtain ⟨fa,h1,h⟩:=zaa h;obtain ⟨fb,h2,h⟩:=zaa h;cases h;have p:PE X (.Subscript a _ pos) (tE cl E (zai ixD fa fb)):=ztr (zub g.kk) (zbJ hs g h1).1 (zbJ hs g h2).1 (zmf hix);exact ⟨(fun z=>by cases z),p,fun _=>zaN p (fun _=>rfl),rfl⟩
   ·cases h
 ·rename_i o fl pos;obtain ⟨rfl,n1⟩:=zrS hs g (pos:=pos) h;exact ⟨(fun z=>by cases z),n1,fun _=>zaN n1 (fun _=>rfl),rfl⟩
 ·rename_i fn args kws cp;unfold znt at h;split at h
  ·rename_i o m ap;split at h
   rotate_left
   ·obtain ⟨a1,a2⟩:=zoH hs g (ap:=ap) (pos:=cp) h;exact ⟨a1,a2,fun _=>zaN a2 (fun _=>rfl),rfl⟩
   rename_i pp hpp;obtain ⟨⟨x,p⟩,e1,h2⟩:=zaa hpp;have e2:=zhP e1;have h3:=h;cases h3;clear hpp e1;subst e2;replace h:=h2;clear h2;dsimp only at h ⊢;unfold zwO at h;split at h
   ·rename_i a;split at h
    ·rename_i hln;obtain ⟨i,h1,h⟩:=zaa h;obtain ⟨fa,h2,h⟩:=zaa h;obtain ⟨gg,h3,h⟩:=zaa h;cases h;obtain ⟨n1,n2,n3,n4⟩:=g.slot h1;obtain ⟨a1,a2⟩:=zbJ hs g h2
     have p:PE X (.Call (.Attribute (.Name x p) m ap) [a] [] cp) (tE cl E (eMt gg i fa)):=by
      unfold zvI at h3;split at h3
      ·rename_i em;cases h3;subst em;exact zqs PySem.F.slot_list_count PySem.F.type_list_count (zl1 g.kk g.units) zkJ n1 n2 n3 n4 a1 (zaf a2) hln
      ·split at h3
       ·rename_i em;cases h3;subst em;exact zqs PySem.F.slot_list_index PySem.F.type_list_index (zl0 g.kk g.units) zkm n1 n2 n3 n4 a1 (zaf a2) hln
       ·cases h3
     exact ⟨(fun z=>by cases z),p,fun _=>zaN p (fun _=>rfl),rfl⟩
    ·cases h
   ·rename_i a b;split at h
    ·rename_i hc;rw [yab] at hc;have em:=yah hc.1;obtain ⟨i,h1,h⟩:=zaa h;obtain ⟨fa,h2,h⟩:=zaa h;obtain ⟨fb,h3,h⟩:=zaa h;cases h;subst em;obtain ⟨n1,n2,n3,n4⟩:=g.slot h1;obtain ⟨a1,a2,a3⟩:=zau hs g h2;obtain ⟨b1,b2,b3⟩:=zau hs g h3;have q:PE X (.Call (.Attribute (.Name x p) "get" ap) [a,b] [] cp) (tE cl E (zgo i fa fb)):=zn5 (by have:=g.units;omega) n1 n2 n3 n4 a1 b1 ⟨rfl,zkx (by simp [zaf a3,zaf b3]) (by simp),hc.2,by rw [za1 (zaf a3),za1 (zaf b3)];rfl⟩;exact ⟨(fun z=>by cases z),q,fun _=>zaN q (fun _=>rfl),rfl⟩
    ·cases h
   ·cases h
  ·rename_i x p;split at h
   ·rename_i hk
    have hk':kws=[]:=by simpa using hk
    subst hk';split at h
    ·rename_i pm hmk;obtain ⟨w,fe⟩:=pm;cases h;obtain ⟨rfl,n1⟩:=ztO hs g (p:=p) (pos:=cp) hmk;exact ⟨(fun z=>by cases z),n1,fun _=>zaN n1 (fun _=>rfl),rfl⟩
    split at h
    ·rename_i hsp;cases h;obtain ⟨a1,a2⟩:=ztn hs g (p:=p) (pos:=cp) hsp;exact ⟨a1,a2,fun _=>zaN a2 (fun _=>rfl),rfl⟩
    split at h
    ·rename_i hsp;cases h;obtain ⟨a1,a2⟩:=ztm hs g (p:=p) (pos:=cp) hsp;exact ⟨a1,a2,fun _=>zaN a2 (fun _=>rfl),rfl⟩
    ·obtain ⟨a1,a2⟩:=zph hs g (p:=p) (pos:=cp) h;exact ⟨a1,a2,fun _=>zaN a2 (fun _=>rfl),rfl⟩
   ·cases h
  ·cases h
 ·rename_i elt gs scope pos;unfold lcG at h;split at h
  ·obtain ⟨fa,h1,h2⟩:=zaC h;cases h2;rename_i gg;have p:PE X (.ListComp elt [gg] scope pos) (tN cl E f):=zkK hs g h1;exact ⟨fun _=>p,zb9 p,fun _=>zaN (zb9 p) (fun _=>rfl),rfl⟩
  ·cases h
 ·rename_i pos;cases h;exact ⟨fun _=>zgK,zb9 zgK,fun _=>zaN (zb9 zgK) (fun _=>rfl),rfl⟩
 ·cases h
theorem znq:∀n,zaM cl G k (zuo G n)
 | 0=>fun _ _ _ _ _ _ _ _ h=>by cases h
 | n+1=>zmy (znq n)
end
end S2
namespace S2
open PySem PySem.Spec PyProof.Rows L2
noncomputable def zk3(X:Cx)(E:St->XK):Prop:=∀(C:Addr) (pins:Z3) (σ:St) (H:Hp) (s:Shared) (e:Addr) (h':Heap) (vs:List Value),Inv X pins σ H s->Heap.MadeExcOf s.heap h' e (.ref C) vs->E σ (.ref C) none H->X.xe (.ref e) { s with heap:=h' }
noncomputable def znF(C:Addr)(E:St->XK)(t:TA):TS:=fun _ σ H=>t σ H fun vs H1=>vs.length<=sizeLine/\E σ (.ref C) none H1
def zjz{X:Cx}{x:Str}{C:Addr}{E:St->XK}{np cpos pos:Pos}{e:Expr}{es:List Expr}{t:TA}(hr:zk3 X E)(hc:X.calm=true)(hg:Gl X x)(hm:X.mg x=some (.ref C))
  (z:PySem.W.excIn X.K C bmV "ValueError.__new__" = true) (ha:PA X (e::es) t)
  (he:starEach (e::es) X.env=(false,eval e X.env)::starEach es X.env) (hpl:(backTo cpos (starEach es X.env)).any (·.1)=false) (hdb:(x == ("__debug__":Str))=false) :
  PS X (.Raise (some (.Call (.Name x np) (e::es) [] cpos)) none pos) (znF C E t):=by
 intro pins s σ H D I h;obtain ⟨bm,N,nm,qn,bs,hd,sn,sub,ab,col,dd,c0,c1,c2,c3,c5,mN,o1,o2,o3,o4⟩:=zo7 I.mod.kin z
 refine wpAny_Raise_call_subU (C:=C) (nm:=nm) (q:=qn) (N:=N) (bs:=bs) (bm:=bm) (hdct:=hd) (sn:=sn) (sub:=sub) (ab:=ab) (col:=col) (dd:=dd) (k0:=c0) (k1:=c1) (k2:=c2) (k3:=c3) (k5:=c5)
  ybW (by decide +kernel) ybW (mN:=mN) (o4.hasType ybW.hasBase) (I.ok.hd hc) (by rw [he];show (false||(backTo cpos (starEach es X.env)).any (·.1))=false;rw [hpl];rfl) o3 (zeg I hg hm ⟨rfl,?_⟩ hdb)
 have go:=ha cpos pins s σ H _ I h;rw [he] at go ⊢;exact ycx (thn go fun us s2 ⟨vs,H2,I2,r2,q1,q2⟩=>⟨rfl,by rw [<-r2.length];exact q1,I2.bk _ _ o1,o2.keeps I2.bk,o4.keeps I2.bk,fun h' a mk=>hr C pins σ H2 s2 a h' us I2 mk q2⟩)
noncomputable def sRz(c:Str)(fs:List Fe):Fs:=fun ρ S=>match zae fs ρ S with | .ok ds S'=>if zaX ds.length then .ex c ρ S' else .bad | .exc x S'=>.ex x ρ S' | .bad=>.bad
noncomputable def zyI(X:Cx)(pins:Z3)(E:St->XK):Cx:={ X with pn:=X.pn++pins,xe:=fun e s'=>∃σ H1 s1,Inv X pins σ H1 s1/\CXE X.prog X.w X.stack H1 s1 (E σ) e s' }
section
variable{X:Cx}{pins:Z3}{σ:St}{H:Hp}{s:Shared}{E:St->XK}
end
noncomputable def zyJ(K:PySem.W.Frag)(C:Addr)(i:Nat)(th:TS)(De:Ends):St->XK:=fun σ cls _ H'=>∃C',cls=.ref C'/\zpt K C' C/\∀a ob,H' a=none->ob.cls=.ref C'->th (De.goes i) (σ.set i (some (.ref a))) (upd H' a (.frz ob (.own a)))
section
variable{X:Cx}{cl:Cf}{E:St->XK}{own:Bool}
end
end S2
namespace S2
open PySem PySem.Spec PyProof.Rows L2
noncomputable def Base.hold(B:Base)(p:Addr)(o:HO):Base:=⟨fun a=>if a=p then some o else B.Fr a,fun a=>if a=p then some .far else B.fw a⟩
noncomputable def Wd.claim(w:Wd)(p:Addr)(r:Root):Wd:=⟨w.H,fun a=>if a=p then some r else if w.ow a=some r then some .far else w.ow a,w.mu⟩
section
variable{cl:Cf}{B:Base}{σ:St}{w:Wd}{ρ:Env}{S:Sto}
theorem Rel.hold{p:Addr}{o:HO}(R:Rel cl B σ w ρ S)(hp:w.H p=none):Rel cl (B.hold p o) σ (w.addAs p o .far) ρ S:=by
 have ff:=zbx (w:=w) (p:=p) (o:=o) (r:=.far) hp
 have kp:∀a u,w.H a=some u->(w.addAs p o .far).H a=some u/\(w.addAs p o .far).ow a=w.ow a:=fun a u ha=>by
  have n:a≠p:=zam ha hp;refine ⟨?_,?_⟩
  ·show upd w.H p o a=_;rw [zag n];exact ha
  ·show (if a=p then _ else if w.ow a=some Root.far then some Root.far else w.ow a)=_;rw [if_neg n];split
   ·rename_i e;exact e.symm
   ·rfl
 refine ⟨⟨fun a u h=>?_,fun a r h=>?_,R.wd.len,fun n ob h=>?_⟩,R.len,fun j b e hj=>?_⟩
 ·by_cases ha:a=p
  ·subst ha;have h':(if a=a then some o else B.Fr a)=some u:=h;rw [if_pos rfl] at h';cases h';exact ⟨zat,by show (if a=a then some Root.far else _)=(if a=a then some Root.far else _);rw [if_pos rfl,if_pos rfl]⟩
  ·have h':(if a=p then some o else B.Fr a)=some u:=h;rw [if_neg ha] at h';have:=kp a u (R.wd.fr a u h').1;refine ⟨this.1,this.2.trans ?_⟩;show _=(if a=p then some Root.far else B.fw a);rw [if_neg ha];exact (R.wd.fr a u h').2
 ·by_cases ha:a=p
  ·have h':(if a=p then some Root.far else if w.ow a=some Root.far then some Root.far else w.ow a)=some r:=h;rw [if_pos ha] at h';cases h';exact .inl rfl
  ·have h':(if a=p then some Root.far else if w.ow a=some Root.far then some Root.far else w.ow a)=some r:=h;rw [if_neg ha] at h';split at h'
   ·cases h';exact .inl rfl
   ·rcases R.wd.own a r h' with z | z
    ·exact .inl z
    ·refine .inr ?_;show (if a=p then some o else B.Fr a)=none;rw [if_neg ha];exact z
 ·obtain ⟨a,e,x⟩:=R.wd.obj n ob h;exact ⟨a,e,x.keep ff fun b u hb _=>kp b u hb⟩
 ·obtain ⟨v,e1,x⟩:=R.slots j b e hj;exact ⟨v,e1,x.keep ff fun a u ha hr=>⟨(kp a u ha).1,(kp a u ha).2.trans hr⟩⟩
def Rel.unhold{p:Addr}{o:HO}(R:Rel cl (B.hold p o) σ w ρ S)(hB:B.Fr p=none):Rel cl B σ w ρ S:=by
 refine ⟨⟨fun a u h=>?_,fun a r h=>?_,R.wd.len,R.wd.obj⟩,R.len,R.slots⟩
 ·have na:a≠p:=fun z=>by rw [z,hB] at h;cases h
  have h2:=R.wd.fr a u (show (if a=p then some o else B.Fr a)=some u by rw [if_neg na];exact h);exact ⟨h2.1,h2.2.trans (show (if a=p then some Root.far else B.fw a)=_ from if_neg na)⟩
 ·rcases R.wd.own a r h with z | z
  ·exact .inl z
  ·have z':(if a=p then some o else B.Fr a)=none:=z;split at z'
   ·cases z'
   ·exact .inr z'
def zen{p:Addr}{r:Root}(h:w.ow p≠none):Fut w (w.claim p r) where
 keep:=fun a u ha hk=>by
  have n:a≠p:=fun z=>h (by rw [<-z];exact hk)
  refine ⟨ha,?_⟩;show (if a=p then some r else if w.ow a=some r then some Root.far else w.ow a)=none;rw [if_neg n,if_neg (by rw [hk];exact fun z=>by cases z)];exact hk
 mu:=fun _ _ h=>h
theorem Rel.claim{i:Nat}{p:Addr}{o:HO}{d:D}(R:Rel cl (B.hold p o) σ w ρ S)(hB:B.Fr p=none)(t:Top cl w o d):Rel cl B (σ.set i (some (.ref p))) (w.claim p (.slot i)) (ρ.set i (some (true,d))) S:=by
 have hp:=R.wd.fr p o (show (if p=p then some o else B.Fr p)=some o from if_pos rfl);have hfar:w.ow p=some .far:=hp.2.trans (show (if p=p then some Root.far else B.fw p)=_ from if_pos rfl);have ff:=zen (w:=w) (p:=p) (r:=.slot i) (by rw [hfar];exact yaG _)
 have kp:∀a u,w.H a=some u->w.ow a≠some .far->w.ow a≠some (.slot i)->(w.claim p (.slot i)).H a=some u/\(w.claim p (.slot i)).ow a=w.ow a:=fun a u ha hk hk2=>by
  have n:a≠p:=fun z=>hk (by rw [z];exact hfar)
  refine ⟨ha,?_⟩;show (if a=p then _ else if w.ow a=some (Root.slot i) then some Root.far else w.ow a)=_;rw [if_neg n,if_neg hk2]
 refine ⟨⟨fun a u h=>?_,fun a r h=>?_,R.wd.len,fun n ob h=>?_⟩,by rw [yay,yay];exact R.len,fun j b e hj=>?_⟩
 ·have na:a≠p:=fun z=>by rw [z,hB] at h;cases h
  have h2:=R.wd.fr a u (show (if a=p then some o else B.Fr a)=some u by rw [if_neg na];exact h);have h3:w.ow a=B.fw a:=h2.2.trans (show (if a=p then some Root.far else B.fw a)=_ from if_neg na)
  have hne:w.ow a≠some (.slot i):=fun z=>by
   rcases R.wd.own a _ z with y | y
   ·cases y
   ·have y':(if a=p then some o else B.Fr a)=none:=y;rw [if_neg na,h] at y';cases y'
  refine ⟨h2.1,?_⟩;show (if a=p then some (Root.slot i) else if w.ow a=some (Root.slot i) then some Root.far else w.ow a)=_;rw [if_neg na,if_neg hne];exact h3
 ·have h':(if a=p then some (Root.slot i) else if w.ow a=some (Root.slot i) then some Root.far else w.ow a)=some r:=h;split at h'
  ·rename_i e;rw [e];exact .inr hB
  ·rename_i na;split at h'
   ·cases h';exact .inl rfl
   ·rcases R.wd.own a r h' with z | z
    ·exact .inl z
    ·have z':(if a=p then some o else B.Fr a)=none:=z;rw [if_neg na] at z';exact .inr z'
 ·obtain ⟨a,e,x⟩:=R.wd.obj n ob h;exact ⟨a,e,x.keep ff fun b u hb hn=>kp b u hb (fun z=>by rwa [z] at hn) (fun z=>by rwa [z] at hn)⟩
 ·by_cases hij:i=j
  ·subst hij
   have hlt:i<ρ.length:=by
    have:=(yan.mp hj).1;rwa [yay] at this
   rw [yaA hlt] at hj;cases hj;exact ⟨.ref p,by rw [yaA (by rw [R.len];exact hlt)],p,o,rfl,if_pos rfl,hp.1,t.up ff⟩
  ·rw [yaP hij] at hj ⊢;obtain ⟨v,e1,x⟩:=R.slots j b e hj;refine ⟨v,e1,x.keep ff fun a u ha hr=>?_⟩;have:=kp a u ha (by rw [hr];exact fun z=>by cases z) (by rw [hr];exact fun z=>hij (by cases z;rfl));exact ⟨this.1,this.2.trans hr⟩
end
noncomputable def tO(cl:Cf)(E:St->XK):Bool->Fe->TE | true,f=>tN cl E f | false,f=>tE cl E f
noncomputable def zqz(i j:Nat)(o1:Bool)(f1:Fe)(o2:Bool)(f2:Fe):Fs:=fun ρ S=>match f1 ρ S with
 | .ok d1 S1=>(match f2 ρ S1 with
  | .ok d2 S2=>.nx ((ρ.set i (some (o1,d1))).set j (some (o2,d2))) S2
  | .exc c S'=>.ex c ρ S'
  | .bad=>.bad)
 | .exc c S'=>.ex c ρ S'
 | .bad=>.bad
section
variable{X:Cx}{cl:Cf}{E:St->XK}{own:Bool}
def zlL{i j:Nat}{o1 o2:Bool}{f1 f2:Fe}{De:Ends}{σ:St}{H:Hp}(q:tS cl E own (zqz i j o1 f1 o2 f2) De σ H):zvw i j (znG (tO cl E o1 f1) (znG (tO cl E o2 f2) zsq)) De σ H:=by
 obtain ⟨B,w,ρ,S,rfl,R,q⟩:=q;unfold zqz at q
 cases o1 with
 | false =>
  refine ⟨B,w,ρ,S,rfl,R,?_⟩
  cases h1:f1 ρ S with
  | bad=>rwa [h1] at q
  | exc c S1=>rw [h1] at q;exact fun w' R' F'=>q σ w' R' F'
  | ok d1 S1 =>
   rw [h1] at q;dsimp only at q;intro v w1 R1 F1 sh1
   cases o2 with
   | false =>
    refine ⟨B,w1,ρ,S1,rfl,R1,?_⟩
    cases h2:f2 ρ S1 with
    | bad=>rwa [h2] at q
    | exc c S2=>rw [h2] at q;exact fun w' R' F'=>q σ w' R' (F1.trans F')
    | ok d2 S2 =>
     rw [h2] at q;intro v2 w2 R2 F2 sh2;exact ⟨v,v2,rfl,q _ w2 ((R2.put (sh1.up F2)).put sh2) (F1.trans F2)⟩
   | true =>
    refine ⟨B,w1,ρ,S1,rfl,R1,?_⟩
    cases h2:f2 ρ S1 with
    | bad=>rwa [h2] at q
    | exc c S2=>rw [h2] at q;exact fun w' R' F'=>q σ w' R' (F1.trans F')
    | ok d2 S2 =>
     rw [h2] at q;intro p2 u2 w2 R2 F2 hp2 t2;exact ⟨v,.ref p2,rfl,q _ (w2.addAs p2 u2 (.slot j)) ((R2.put (sh1.up F2)).own hp2 t2) (F1.trans (F2.trans (zbx hp2)))⟩
 | true =>
  refine ⟨B,w,ρ,S,rfl,R,?_⟩
  cases h1:f1 ρ S with
  | bad=>rwa [h1] at q
  | exc c S1=>rw [h1] at q;exact fun w' R' F'=>q σ w' R' F'
  | ok d1 S1 =>
   rw [h1] at q;dsimp only at q;intro p u w1 R1 F1 hp t1;have Rh:=R1.hold (o:=u) hp;have fa:=zbx (w:=w1) (p:=p) (o:=u) (r:=.far) hp
   have hB:B.Fr p=none:=by
    cases z:B.Fr p with
    | none=>rfl
    | some x=>have:=(R1.wd.fr p x z).1;rw [hp] at this;cases this
   cases o2 with
   | false =>
    refine ⟨B.hold p u,w1.addAs p u .far,ρ,S1,rfl,Rh,?_⟩
    cases h2:f2 ρ S1 with
    | bad=>rwa [h2] at q
    | exc c S2=>rw [h2] at q;exact fun w' R' F'=>q σ w' (R'.unhold hB) (F1.trans (fa.trans F'))
    | ok d2 S2 =>
     rw [h2] at q;intro v2 w2 R2 F2 sh2;have hpp:=R2.wd.fr p u (show (if p=p then some u else B.Fr p)=some u from if_pos rfl)
     have hfar:w2.ow p≠none:=by rw [hpp.2,show (B.hold p u).fw p=some Root.far from if_pos rfl];exact yaG _
     have fc:=zen (w:=w2) (p:=p) (r:=.slot i) hfar;exact ⟨.ref p,v2,rfl,q _ (w2.claim p (.slot i)) ((R2.claim hB (t1.up (fa.trans F2))).put (sh2.up fc)) (F1.trans (fa.trans (F2.trans fc)))⟩
   | true =>
    refine ⟨B.hold p u,w1.addAs p u .far,ρ,S1,rfl,Rh,?_⟩
    cases h2:f2 ρ S1 with
    | bad=>rwa [h2] at q
    | exc c S2=>rw [h2] at q;exact fun w' R' F'=>q σ w' (R'.unhold hB) (F1.trans (fa.trans F'))
    | ok d2 S2 =>
     rw [h2] at q;intro p2 u2 w2 R2 F2 hp2 t2;have hpp:=R2.wd.fr p u (show (if p=p then some u else B.Fr p)=some u from if_pos rfl)
     have hfar:w2.ow p≠none:=by rw [hpp.2,show (B.hold p u).fw p=some Root.far from if_pos rfl];exact yaG _
     have fc:=zen (w:=w2) (p:=p) (r:=.slot i) hfar;exact ⟨.ref p,.ref p2,rfl,q _ ((w2.claim p (.slot i)).addAs p2 u2 (.slot j)) ((R2.claim hB (t1.up (fa.trans F2))).own (w:=w2.claim p (.slot i)) hp2 (t2.up fc)) (F1.trans (fa.trans (F2.trans (fc.trans (zbx (w:=w2.claim p (.slot i)) hp2)))))⟩
end
noncomputable def zel:Expr->Bool | .ListComp _ _ _ _=>true | .SetComp _ _ _ _=>true | .DictComp _ _ _ _ _=>true | _=>false
def zdV{e:Expr}{t:Option Expr}{l:Nat}{env:PySem.Env}(h:zel e=false):swapsWith e t l env=pure false:=by
 cases e<;>first | rfl | cases h
structure Gd(cl:Cf)(G:Genv)(k:Nat)(X:Cx)(nm:Names)(N:List Str)(E:St->XK)(full:Bool):Prop where
 gx:Gx cl G k X nm N E
 fn:∀x,X.fn x=true
 kind:X.env.scope.kind=.function
 sc:X.env.scope.names=nm
 own:full=true->PassesOwn (model X.prog X.w) X.A X.env X.xe
 raises:full=true->zk3 X E
 stk:X.stack=X.env::X.outer
 frm:X.env.frame=some X.env.locals
noncomputable def zbY:Nat->Names->List Str->Expr->List Nat
 | 0,_,_,_=>[]
 | n+1,nm,N,e =>
  let rc:=zbY n nm N
  let op:=fun (e:Expr)=>match e with | .Name _ _=>[] | e=>rc e
  match e with
  | .Name x _=>(zbp nm N x).toList
  | .Tuple es _ _=>es.flatMap rc
  | .List es _=>es.flatMap rc
  | .BinOp a _ b _=>op a++op b
  | .UnaryOp _ a _=>rc a
  | .BoolOp _ es _=>es.flatMap rc
  | .Compare a _ bs _=>op a++bs.flatMap op
  | .IfExp c a b _=>rc c++rc a++rc b
  | .Subscript a (.Slice lo hi _ _) _=>op a++lo.toList.flatMap op++hi.toList.flatMap op
  | .Subscript a i _=>op a++op i
  | .Call (.Name f _) args [] _=>if (zkW f).isSome||decide (f = "isinstance") then args.flatMap op else args.flatMap rc
  | .Call (.Attribute o _ _) args [] _=>op o++args.flatMap rc
  | .Dict _ _ _=>[]
  | .Attribute o _ _=>op o
  | .ListComp _ [g] scope _=>rc g.iter++(zaR scope.names N).map (·.2)
  | _=>[]
noncomputable def ze5(t:Tg)(f:Fe):Fs:=fun ρ S=>match f ρ S with
 | .ok d S'=>(match t.put ρ d with | some ρ'=>.nx ρ' S' | none=>.bad)
 | .exc c S'=>.ex c ρ S'
 | .bad=>.bad
noncomputable def zlM(nm:Names)(x y:Str)(px py:Pos)(a b:Expr):Bool :=
 decide (nm.lookup x=some .local)&&decide (nm.lookup y=some .local)&&decide (px.line=py.line)&&!decide (x=y)&&zbf a&&zbf b&&!([a,b].all (foldedForSure 8))&&!([a,b].all (constantsAlone 8))
noncomputable def zpf(nm:Names)(x y:Str)(a b:Expr):Bool:=zbf a&&zbf b&&(!decide (nm.lookup x=some .local)||!decide (nm.lookup y=some .local))
noncomputable def znm:Expr->Bool | .Constant _ _ _=>true | _=>false
noncomputable def zyl:Expr->Bool | .Name _ _=>true | .Constant _ _ _=>true | .Subscript _ _ _=>true | .BinOp _ _ _ _=>true | _=>false
noncomputable def zpb:Expr->Option (List (Option Expr)×List Expr×Pos) | .Dict ks vs p=>some (ks,vs,p) | _=>none
def zmw{e:Expr}{x:List (Option Expr)×List Expr×Pos}(h:zpb e=some x):e=.Dict x.1 x.2.1 x.2.2:=by cases e<;>first | (cases h;done) | (cases h;rfl)
noncomputable def zg2(e:Expr):Bool:=match zpb e with | some x=>x.1.isEmpty&&x.2.1.isEmpty | none=>false
def zmx{e:Expr}(h:zg2 e=true):∃p,e=.Dict [] [] p:=by
 unfold zg2 at h
 cases h1:zpb e with
 | none=>rw [h1] at h;cases h
 | some x =>
  rw [h1] at h;dsimp only at h;rw [yab,ybI,ybI] at h;exact ⟨_,by rw [zmw h1,h.1,h.2]⟩
noncomputable def zre{α:Type}:List α->Option α | [a]=>some a | _=>none
def zjT{α:Type}{l:List α}{a:α}(h:zre l=some a):l=[a]:=by
 cases l with
 | nil=>cases h
 | cons b t=>cases t with
  | nil=>cases h;rfl
  | cons _ _=>cases h
noncomputable def zeD:Expr->Option (Str×Pos) | .Name x p=>some (x,p) | _=>none
def zb0{e:Expr}{x:Str×Pos}(h:zeD e=some x):e=.Name x.1 x.2:=by cases e<;>first | (cases h;done) | (cases h;rfl)
noncomputable def zpj:Expr->Option (Expr×List Expr×List Keyword×Pos) | .Call f a k p=>some (f,a,k,p) | _=>none
def zh7{e:Expr}{x:Expr×List Expr×List Keyword×Pos}(h:zpj e=some x):e=.Call x.1 x.2.1 x.2.2.1 x.2.2.2:=by cases e<;>first | (cases h;done) | (cases h;rfl)
noncomputable def zpF:Expr->Option (Expr×Str×Pos) | .Attribute o m p=>some (o,m,p) | _=>none
def zhg{e:Expr}{x:Expr×Str×Pos}(h:zpF e=some x):e=.Attribute x.1 x.2.1 x.2.2:=by cases e<;>first | (cases h;done) | (cases h;rfl)
noncomputable def zyz:Stmt->Option (List Expr×Expr×Pos) | .Assign t e p=>some (t,e,p) | _=>none
def zuA{e:Stmt}{x:List Expr×Expr×Pos}(h:zyz e=some x):e=.Assign x.1 x.2.1 x.2.2:=by cases e<;>first | (cases h;done) | (cases h;rfl)
noncomputable def zpu:Expr->Option (List Expr×Nat×Pos) | .Tuple es k p=>some (es,k,p) | _=>none
def ziZ{e:Expr}{x:List Expr×Nat×Pos}(h:zpu e=some x):e=.Tuple x.1 x.2.1 x.2.2:=by cases e<;>first | (cases h;done) | (cases h;rfl)
noncomputable def zvB:Expr->Option (Expr×Expr×Pos) | .Subscript a i p=>some (a,i,p) | _=>none
def znH{e:Expr}{x:Expr×Expr×Pos}(h:zvB e=some x):e=.Subscript x.1 x.2.1 x.2.2:=by cases e<;>first | (cases h;done) | (cases h;rfl)
noncomputable def lcE:Expr->Option (Expr×List Comprehension×Scope×Pos) | .ListComp elt gs scope p=>some (elt,gs,scope,p) | _=>none
def zru{e:Expr}{x:Expr×List Comprehension×Scope×Pos}(h:lcE e=some x):e=.ListComp x.1 x.2.1 x.2.2.1 x.2.2.2:=by cases e<;>first | (cases h;done) | (cases h;rfl)
noncomputable def zs4{α:Type}:List α->Option (α×α) | [a,b]=>some (a,b) | _=>none
def zmR{α:Type}{l:List α}{a:α×α}(h:zs4 l=some a):l=[a.1,a.2]:=by
 cases l with
 | nil=>cases h
 | cons b t=>cases t with
  | nil=>cases h
  | cons c t=>cases t with
   | nil=>cases h;rfl
   | cons _ _=>cases h
noncomputable def zuB(G:Genv)(rc:Rec)(nm:Names)(N:List Str)(x:Str)(e:Expr):Option Fs :=
 (tgI true nm N N.length x).bind fun i=>match lcE e with
  | some c=>(zre c.2.1).bind fun g=>(ziH G rc nm N c.1 g c.2.2.1).bind fun f=>some (zcc i true f)
  | none=>if zel e then none else (rc nm N e).bind fun p=>some (zcc i p.1 p.2)
noncomputable def zuz(rc:Rec)(nm:Names)(N:List Str)(t:List Expr×Nat×Pos)(e:Expr):Option Fs:=match zpu e with
 | some v=>(zs4 t.1).bind fun xy=>(zeD xy.1).bind fun x=>(zeD xy.2).bind fun y=>(zs4 v.1).bind fun ab =>
  if zlM nm x.1 y.1 x.2 y.2 ab.1 ab.2 then (tgI true nm N N.length x.1).bind fun i=>(tgI true nm N N.length y.1).bind fun j=>if i=j then none else (rc nm N ab.1).bind fun p=>(rc nm N ab.2).bind fun q=>some (zqz i j p.1 p.2 q.1 q.2)
  else if (znm ab.1&&znm ab.2)||zpf nm x.1 y.1 ab.1 ab.2 then (tgG true nm N N.length (.Tuple t.1 t.2.1 t.2.2)).bind fun t=>(shE rc nm N e).bind fun f=>some (ze5 t f) else none
 | none=>(tgG true nm N N.length (.Tuple t.1 t.2.1 t.2.2)).bind fun t=>(shE rc nm N e).bind fun f=>some (ze5 t f)
noncomputable def zuE(G:Genv)(rc:Rec)(nm:Names)(N:List Str)(o:Expr)(f:Str)(e:Expr):Option Fs :=
 (nmF o).bind fun x=>if zg2 e then (if G.ob.df f&&G.ob.fk G.ob.cur f then (zbp nm N x.1).map fun i=>zn7 G.ob.cur f i else none) else (if G.ob.df f||!G.ob.fk G.ob.cur f then none else (shE rc nm N o).bind fun fo=>(shE rc nm N e).bind fun fe=>some (zjp G.ob.cur f fo fe))
noncomputable def zuC(G:Genv)(rc:Rec)(nm:Names)(N:List Str)(o:Expr)(f:Str)(ix e:Expr):Option Fs :=
 if zfq o&&G.ob.df f&&!zel e&&G.ob.fk G.ob.cur f then (nmF ix).bind fun x=>(zbp nm N x.1).bind fun i=>(shE rc nm N o).bind fun fo=>(shE rc nm N e).bind fun fe=>some (zjo G.ob.cur f fo i fe) else none
noncomputable def zuD(rc:Rec)(nm:Names)(N:List Str)(x:Str)(ix e:Expr):Option Fs :=
 if zyl ix&&!zel e then (zbp nm N x).bind fun i=>(opE rc nm N ix).bind fun fi=>(shE rc nm N e).bind fun f=>some (zjm i fi f) else none
noncomputable def zuF(rc:Rec)(nm:Names)(N:List Str)(x:Str)(ix e:Expr):Option Fs :=
 if !zel e then (zbp nm N x).bind fun i=>(shE rc nm N ix).bind fun k=>(shE rc nm N e).bind fun f=>some (zgL i k f) else none
noncomputable def zsh(G:Genv)(rc:Rec)(nm:Names)(N:List Str)(q:Expr×Expr×Pos)(e:Expr):Option Fs:=match zpF q.1 with
 | some a=>zuC G rc nm N a.1 a.2.1 q.2.1 e
 | none=>(zeD q.1).bind fun x=>if G.ds x.1 then zuF rc nm N x.1 q.2.1 e else zuD rc nm N x.1 q.2.1 e
noncomputable def zsL(G:Genv)(rc:Rec)(nm:Names)(N:List Str)(tg e:Expr):Option Fs:=match zeD tg with
 | some x=>zuB G rc nm N x.1 e
 | none=>match zpu tg with
  | some t=>zuz rc nm N t e
  | none=>match zpF tg with
   | some a=>zuE G rc nm N a.1 a.2.1 e
   | none=>(zvB tg).bind fun q=>zsh G rc nm N q e
structure Mc where
 x:Str
 px:Pos
 m:Str
 ap:Pos
 a:Expr
 cp:Pos
noncomputable def zlZ(e:Expr):Option Mc:=(zpj e).bind fun c=>if c.2.2.1.isEmpty then (zpF c.1).bind fun t=>(zeD t.1).bind fun x=>(zre c.2.1).bind fun a=>some ⟨x.1,x.2,t.2.1,t.2.2,a,c.2.2.2⟩ else none
noncomputable def zo6(G:Genv)(rc:Rec)(nm:Names)(N:List Str)(e:Expr):Option Fs:=match zlZ e with
 | some c=>if decide (c.m = "append")&&(c.ap.endLine == c.cp.line) then (zbp nm N c.x).bind fun i=>(shE rc nm N c.a).bind fun f=>some (zln i f)
  else if zel e then none else (shE rc nm N e).map zmZ
 | none=>if zel e then none else (shE rc nm N e).map zmZ
noncomputable def ztv(rc:Rec)(nm:Names)(N:List Str)(own:Bool)(e:Expr):Option Fs:=match own with
 | true=>(match e with
  | .Name x _=>(zbp nm N x).map zjn
  | e=>(rc nm N e).bind fun p=>if p.1 then some (zbh p.2) else none)
 | false=>(shE rc nm N e).map zbh
noncomputable def rzG(G:Genv)(rc:Rec)(nm:Names)(N:List Str)(full:Bool)(a b:Option Expr):Option Fs:=if b.isNone then a.bind fun e=>(zpj e).bind fun c=>(zeD c.1).bind fun x=>if c.2.2.1.isEmpty&&!c.2.1.isEmpty&&full&&zbE nm x.1&&G.exc x.1 then (shL rc nm N c.2.1).bind fun fs=>some (sRz x.1 fs) else none else none
noncomputable def stG(G:Genv)(rc:Rec)(rs:Bool->List Stmt->Option Fs)(nm:Names)(N:List Str)(own full:Bool)(st:Stmt):Option Fs:=match st with
 | .Pass _=>some sNx
 | .Break _=>some sBk
 | .Assign ts e _=>(zre ts).bind fun tg=>zsL G rc nm N tg e
 | .Expr e _=>zo6 G rc nm N e
 | .AugAssign tg op e _=>(zeD tg).bind fun x=>(zsJ op).bind fun gg=>(tgI true nm N N.length x.1).bind fun i=>(shE rc nm N e).bind fun f=>some (zqC i gg f)
 | .Return o _=>(match o with | some e=>ztv rc nm N own e | none=>if own then none else some zlm)
 | .If c a b _=>if zbg c then (shE rc nm N c).bind fun f=>(rs full a).bind fun g=>(rs full b).bind fun h=>some (sIf f g h) else none
 | .For tg it body el _=>if full&&el.isEmpty then (ziB G rc nm N tg it).bind fun i=>(tgG true nm N N.length tg).bind fun t=>(rs full body).bind fun b=>some (zgN t i b) else none
 | .Raise a b _=>rzG G rc nm N full a b
 | _=>none
end S2
namespace S2
open PySem PySem.Spec PyProof.Rows L2
noncomputable def zok(n:Nat)(own:Bool)(nm:Names)(N:List Str):Stmt->List Nat
 | .Assign [_] e _=>zbY n nm N e
 | .Expr (.Call (.Attribute _ _ _) args [] _) _=>args.flatMap (zbY n nm N)
 | .Expr e _=>zbY n nm N e
 | .Return (some (.Name x p)) _=>if own then [] else zbY n nm N (.Name x p)
 | .Return (some e) _=>zbY n nm N e
 | .If c _ _ _=>zbY n nm N c
 | .For _ it _ _ _=>zbY n nm N it
 | .While c _ _ _=>zbY n nm N c
 | _=>[]
noncomputable def blk(ds:Stmt->Option Fs):List Stmt->Option Fs
 | []=>some sNx
 | s::r=>(ds s).bind fun f=>(blk ds r).bind fun g=>some (zan f g)
noncomputable def zmz(G:Genv)(own:Bool):Nat->Bool->Names->List Str->Stmt->Option Fs
 | 0,_,_,_,_=>none
 | n+1,full,nm,N,st=>(stG G (zuo G n) (fun fl b=>blk (zmz G own n fl nm N) b) nm N own full st).map (sFz (zok n own nm N st))
section
variable{cl:Cf}{G:Genv}{k:Nat}{rc:Rec}{X:Cx}{nm:Names}{N:List Str}{E:St->XK}{own full:Bool}
def Gd.sto(g:Gd cl G k X nm N E full):Sto' X nm true:=⟨fun _ x _=>g.fn x⟩
def zij{elt:Expr}{gs:List Comprehension}{scope:Scope}{p px:Pos}{x:Str}{l:Nat}{env:PySem.Env}:∃b,swapsWith (.ListComp elt gs scope p) (some (.Name x px)) l env=pure b:=⟨_,rfl⟩
def zk1{n:Nat}{t:Tg}{f:Fe}{De:Ends}{σ:St}{H:Hp}(q:tS cl E own (ze5 t f) De σ H):zpw (tE cl E f) (tG cl n t) De σ H:=by
 obtain ⟨B,w,ρ,S,rfl,R,q⟩:=q;refine ⟨B,w,ρ,S,rfl,R,?_⟩;unfold ze5 at q
 cases hf:f ρ S with
 | bad=>rwa [hf] at q
 | exc c S1=>rw [hf] at q;exact fun w' R' F'=>q σ w' R' F'
 | ok d S1 =>
  rw [hf] at q;intro v w' R' F' h';dsimp only at q
  cases hp:t.put ρ d with
  | none=>rw [hp] at q;exact q.elim
  | some ρ'=>rw [hp] at q;exact ⟨B,w',ρ,S1,d,ρ',rfl,R',h',hp,fun σ' _ _ R2=>q σ' w' R2 F'⟩
def zq6{x y:Str}{px py pt pt2:Pos}{kt k2:Nat}{a b:Expr}(hk:X.env.scope.kind=.function)(hs:X.env.scope.names=nm)(h:zlM nm x y px py a b=true) :
  swappedStores [.Tuple [.Name x px,.Name y py] kt pt] (.Tuple [a,b] k2 pt2) X.env=pure (some [x,y]):=by
 unfold zlM at h;simp only [yab,yaM,ybh,ybG] at h;obtain ⟨⟨⟨⟨⟨⟨⟨h1,h2⟩,h3⟩,h4⟩,h5⟩,h6⟩,h7⟩,h8⟩:=h
 have hb:X.env.blockKind=.function:=by unfold Env.blockKind;rw [hk];rfl
 have k1:X.env.kindOf x=some .local:=by unfold Env.kindOf;rw [hs];exact h1
 have k2':X.env.kindOf y=some .local:=by unfold Env.kindOf;rw [hs];exact h2
 have st:([a,b].any fun | .Starred ..=>true | _=>false)=false:=by
  cases a<;>first | (cases h5;done) | (cases b<;>first | rfl | cases h6)
 have ed:[x,y].eraseDups.length=2:=by
  have:(y == x)=false:=by rw [ya2];exact fun z=>h4 z.symm
  simp [List.eraseDups_cons,this]
 unfold swappedStores;simp only [hb,st];simp [k1,k2',h3,h7,h8,ed,Expr.pos];intro z;exfalso
 rcases z with z | z
 ·cases a<;>first | (cases h5;done) | cases z
 ·cases b<;>first | (cases h6;done) | cases z
def zr5{x y:Str}{px py pt pt2:Pos}{kt k2:Nat}{a b:Expr}(hs:X.env.scope.names=nm)(h:zpf nm x y a b=true) :
  swappedStores [.Tuple [.Name x px,.Name y py] kt pt] (.Tuple [a,b] k2 pt2) X.env=pure none:=by
 unfold zpf at h;simp only [yab,ycf,ybh,ybG] at h;obtain ⟨⟨h5,h6⟩,h⟩:=h
 have st:([a,b].any fun | .Starred ..=>true | _=>false)=false:=by
  cases a<;>first | (cases h5;done) | (cases b<;>first | rfl | cases h6)
 unfold swappedStores;simp only [st]
 by_cases hb:X.env.blockKind=.function
 ·rcases h with h | h
  ·have k1:¬ X.env.kindOf x=some .local:=by unfold Env.kindOf;rw [hs];exact h
   by_cases c:X.env.kindOf y=some .local/\py.line=px.line<;>simp [k1,c,hb,Expr.pos,ybv]
  ·have k1:¬ X.env.kindOf y=some .local:=by unfold Env.kindOf;rw [hs];exact h
   by_cases c:X.env.kindOf x=some .local<;>simp [k1,c,hb,Expr.pos,ybv]
 ·simp [hb]
def zmC(hs:zaM cl G k rc)(g:Gd cl G k X nm N E full){elt:Expr}{gg:Comprehension}{scope:Scope}{x:Str}{i:Nat}{f:Fe}{p px pos:Pos}(hi:tgI true nm N N.length x=some i)(h:ziH G rc nm N elt gg scope=some f) :
  PS X (.Assign [.Name x px] (.ListComp elt [gg] scope p) pos) (tS cl E own (zcc i true f)):=by
 obtain ⟨a1,a2,a3,a4,a5⟩:=zd3 g.gx g.sto hi;obtain ⟨b,hb⟩:=zij (elt:=elt) (gs:=[gg]) (scope:=scope) (p:=p) (px:=px) (x:=x) (l:=pos.line) (env:=X.env)
 cases b with
 | false=>exact zja a2 a3 a4 (zkK hs g.gx h) hb a5
 | true =>
  obtain ⟨it,t,c,el,rfl,eg,S,i1,i2,i3,i4,i5⟩:=zeR hs g.gx h;rw [eg] at hb ⊢;refine PS.imp (zlv g.gx.calm S a2 a3 a4 i1 i3 i4 i5 hb a5 (zfh i2)) ?_;intro De σ H q;exact zns (zsg q)
def zr0{x y:Str}{px py pt pt2 p1 p2:Pos}{kt k2:Nat}{a b:Const}{ka kb:Nat}{env:PySem.Env}:swappedStores [.Tuple [.Name x px,.Name y py] kt pt] (.Tuple [.Constant a ka p1,.Constant b kb p2] k2 pt2) env=pure none:=by
 have hf:∀(c:Const) (k:Nat) (p:Pos),foldedForSure 8 (.Constant c k p)=true:=fun _ _ _=>rfl
 unfold swappedStores;simp only [ybp,List.all_nil,hf,Bool.and_self,ybP]
 split<;>first | rfl | (split<;>first | rfl | (split<;>rfl))
def zmT{a i e:Expr}{p:Pos}{l:Nat}{env:PySem.Env}:swapsWithSole [.Subscript a i p] e l env=pure false:=by cases e<;>rfl
def zmV{a i e:Expr}{p:Pos}{env:PySem.Env}:swappedStores [.Subscript a i p] e env=pure none:=by cases e<;>rfl
def zp1{es:List Expr}{kk l:Nat}{p:Pos}{e:Expr}{env:PySem.Env}:swapsWithSole [.Tuple es kk p] e l env=pure false:=by cases e<;>rfl
def zp3{es:List Expr}{kk:Nat}{p:Pos}{e:Expr}{env:PySem.Env}(h:zpu e=none):swappedStores [.Tuple es kk p] e env=pure none:=by cases e<;>first | rfl | cases h
def zmU{o e:Expr}{f:Str}{p:Pos}{l:Nat}{env:PySem.Env}:swapsWith e (some (.Attribute o f p)) l env=pure false:=by cases e<;>rfl
def zpn(hs:zaM cl G k rc)(g:Gd cl G k X nm N E full){e:Expr}{x:Str}{px:Pos}{f:Fs}{pos:Pos}(h:zuB G rc nm N x e=some f):PS X (.Assign [.Name x px] e pos) (tS cl E own f):=by
 unfold zuB at h;obtain ⟨i,h1,h⟩:=zaa h
 cases hl:lcE e with
 | some c =>
  rw [hl] at h;obtain ⟨gg,h2,h⟩:=zaa h;obtain ⟨fe,h3,h⟩:=zaa h;cases h;rw [zru hl,zjT h2];exact zmC hs g h1 h3
 | none =>
  rw [hl] at h;dsimp only at h;split at h
  ·cases h
  ·rename_i hc;obtain ⟨⟨o,fe⟩,h2,h⟩:=zaa h;cases h;obtain ⟨a1,a2,a3,a4,a5⟩:=zd3 g.gx g.sto h1;obtain ⟨b1,b2,_,_⟩:=hs X nm N E g.gx _ o fe h2;have sw:=zdV (t:=some (.Name x px)) (l:=pos.line) (env:=X.env) (by simpa using hc)
   cases o with
   | false=>exact zqc a2 a3 a4 b2 sw a5
   | true=>exact zja a2 a3 a4 (b1 rfl) sw a5
def zpm(hs:zaM cl G k rc)(g:Gd cl G k X nm N E full){e:Expr}{t:List Expr×Nat×Pos}{f:Fs}{pos:Pos}(h:zuz rc nm N t e=some f):PS X (.Assign [.Tuple t.1 t.2.1 t.2.2] e pos) (tS cl E own f):=by
 have tupCase:swappedStores [.Tuple t.1 t.2.1 t.2.2] e X.env=pure none->((tgG true nm N N.length (.Tuple t.1 t.2.1 t.2.2)).bind fun t=>(shE rc nm N e).bind fun f=>some (ze5 t f))=some f->PS X (.Assign [.Tuple t.1 t.2.1 t.2.2] e pos) (tS cl E own f):=by
  intro sw2 h;obtain ⟨t',h1,h⟩:=zaa h;obtain ⟨fe,h2,h⟩:=zaa h;cases h;exact PS.imp (zjB (zau hs g.gx h2).1 (znA g.gx g.sto h1) zp1 sw2 rfl) fun _ _ _ q=>zk1 q
 unfold zuz at h
 cases hv:zpu e with
 | none =>
  rw [hv] at h;exact tupCase (zp3 hv) h
 | some v =>
  rw [hv] at h;obtain ⟨xy,h1,h⟩:=zaa h;obtain ⟨x,h2,h⟩:=zaa h;obtain ⟨y,h3,h⟩:=zaa h;obtain ⟨ab,h4,h⟩:=zaa h;have ev:=ziZ hv
  have et:t.1=[.Name x.1 x.2,.Name y.1 y.2]:=by rw [zmR h1,zb0 h2,zb0 h3]
  rw [zmR h4] at ev;obtain ⟨a,b⟩:=ab;dsimp only at h ev;split at h
  ·rename_i hp;obtain ⟨i,h1,h⟩:=zaa h;obtain ⟨j,h2,h⟩:=zaa h;split at h
   ·cases h
   ·rename_i hij;obtain ⟨⟨o1,f1⟩,h3,h⟩:=zaa h;obtain ⟨⟨o2,f2⟩,h4,h⟩:=zaa h;cases h;obtain ⟨_,a2,a3,_,_⟩:=zd3 g.gx g.sto h1;obtain ⟨_,_,b3,_,_⟩:=zd3 g.gx g.sto h2;obtain ⟨p1,p2,_,p4⟩:=hs X nm N E g.gx a o1 f1 h3;obtain ⟨q1,q2,_,q4⟩:=hs X nm N E g.gx b o2 f2 h4
    have hx:X.env.scope.names.lookup x.1=some .local/\X.env.scope.names.lookup y.1=some .local:=by
     unfold zlM at hp;simp only [yab,yaM] at hp;rw [g.sc];exact ⟨hp.1.1.1.1.1.1.1,hp.1.1.1.1.1.1.2⟩
    have P1:PE X a (tO cl E o1 f1):=by cases o1 with | false=>exact p2 | true=>exact p1 rfl
    have P2:PE X b (tO cl E o2 f2):=by cases o2 with | false=>exact q2 | true=>exact q1 rfl
    rw [et,ev];exact PS.imp (zqQ g.gx.calm a2 a3 b3 hij hx.1 hx.2 (zbZ P1 (zbZ P2 zea (za1 (zaf q4))) (za1 (zaf p4))) (zq6 g.kind g.sc hp) rfl) fun _ _ _ q=>zlL q
  ·split at h
   ·rename_i hc;refine tupCase ?_ h;rw [et,ev];rw [ycf] at hc
    rcases hc with hc | hc
    rotate_left
    ·exact zr5 g.sc hc
    rw [yab] at hc
    cases a<;>first | (cases hc.1;done) | (cases b<;>first | (cases hc.2;done) | exact zr0)
   ·cases h
def zpq(hs:zaM cl G k rc)(g:Gd cl G k X nm N E full){o e:Expr}{fl:Str}{ap:Pos}{f:Fs}{pos:Pos}(h:zuE G rc nm N o fl e=some f):PS X (.Assign [.Attribute o fl ap] e pos) (tS cl E own f):=by
 unfold zuE at h;obtain ⟨x,h1,hz⟩:=zaa h;have e1:=zhP h1;clear h h1;subst e1;split at hz
 ·rename_i hd;split at hz
  ·rename_i hf;rw [yab] at hf;obtain ⟨i,h1,hz⟩:=zaC hz;subst hz;obtain ⟨s1,s2,s3,s4⟩:=g.gx.slot h1;obtain ⟨p,rfl⟩:=zmx hd;exact znQ s1 s2 s3 s4 g.gx.same (g.gx.gok.fk _ _ hf.2) zmU
  ·cases hz
 ·split at hz
  ·cases hz
  ·rename_i hf;rw [Bool.not_eq_true,Bool.or_eq_false_iff,Bool.not_eq_false'] at hf;obtain ⟨fo,h2,hz⟩:=zaa hz;obtain ⟨fe,h3,hz⟩:=zaa hz;cases hz;exact znP g.gx.same (g.gx.gok.fk _ _ hf.2) (zau hs g.gx h2).1 (zau hs g.gx h3).1 zmU
def zpo(hs:zaM cl G k rc)(g:Gd cl G k X nm N E full){o ix e:Expr}{fl:Str}{ap p3:Pos}{f:Fs}{pos:Pos}(h:zuC G rc nm N o fl ix e=some f):PS X (.Assign [.Subscript (.Attribute o fl ap) ix p3] e pos) (tS cl E own f):=by
 unfold zuC at h;split at h
 ·rename_i hc;rw [yab,yab,yab,ybh] at hc;obtain ⟨x,h1,hz⟩:=zaa h;have e1:=zhP h1;clear h h1;subst e1;obtain ⟨i,h1,hz⟩:=zaa hz;obtain ⟨fo,h2,hz⟩:=zaa hz;obtain ⟨fe,h3,hz⟩:=zaa hz;cases hz;obtain ⟨s1,s2,s3,s4⟩:=g.gx.slot h1;refine znN s1 s2 s3 s4 g.gx.u16 g.gx.same (g.gx.gok.fk _ _ hc.2) (zau hs g.gx h2).1 ?_ (zau hs g.gx h3).1 zmT zmV ?_
  ·cases o<;>first | rfl | cases hc.1.1.1
  ·intro _;rfl
 ·cases h
def zpp(hs:zaM cl G k rc)(g:Gd cl G k X nm N E full){ix e:Expr}{x:Str}{px p3:Pos}{f:Fs}{pos:Pos}(h:zuD rc nm N x ix e=some f):PS X (.Assign [.Subscript (.Name x px) ix p3] e pos) (tS cl E own f):=by
 unfold zuD at h;split at h
 ·rename_i hx;rw [yab,ybh] at hx;obtain ⟨i,h1,h⟩:=zaa h;obtain ⟨fi,h2,h⟩:=zaa h;obtain ⟨fe,h3,h⟩:=zaa h;cases h;obtain ⟨s1,s2,s3,s4⟩:=g.gx.slot h1;obtain ⟨b1,_⟩:=zbJ hs g.gx h2;obtain ⟨a1,_,_⟩:=zau hs g.gx h3;refine znI s1 s2 s3 s4 a1 b1 zmT zmV ?_
  cases ix<;>first | (intro _;rfl) | cases hx.1
 ·cases h
def zpr(hs:zaM cl G k rc)(g:Gd cl G k X nm N E full){ix e:Expr}{x:Str}{px p3:Pos}{f:Fs}{pos:Pos}(h:zuF rc nm N x ix e=some f):PS X (.Assign [.Subscript (.Name x px) ix p3] e pos) (tS cl E own f):=by
 unfold zuF at h;split at h
 ·rename_i hx;rw [ybh] at hx;obtain ⟨i,h1,h⟩:=zaa h;obtain ⟨fi,h2,h⟩:=zaa h;obtain ⟨fe,h3,h⟩:=zaa h;cases h;obtain ⟨s1,s2,s3,s4⟩:=g.gx.slot h1;exact znM (by have:=g.gx.units;omega) s1 s2 s3 s4 (zau hs g.gx h2).1 (zau hs g.gx h3).1 (zdV hx)
 ·cases h
def zsf(hs:zaM cl G k rc)(g:Gd cl G k X nm N E full){tg e:Expr}{f:Fs}{pos:Pos}(h:zsL G rc nm N tg e=some f):PS X (.Assign [tg] e pos) (tS cl E own f):=by
 unfold zsL at h
 cases h1:zeD tg with
 | some x=>rw [h1] at h;rw [zb0 h1];exact zpn hs g h
 | none =>
  rw [h1] at h
  cases h2:zpu tg with
  | some t=>rw [h2] at h;rw [ziZ h2];exact zpm hs g h
  | none =>
   rw [h2] at h
   cases h3:zpF tg with
   | some a=>rw [h3] at h;rw [zhg h3];exact zpq hs g h
   | none =>
    rw [h3] at h;obtain ⟨q,h4,h⟩:=zaa h;rw [znH h4];unfold zsh at h
    cases h5:zpF q.1 with
    | some a=>rw [h5] at h;rw [zhg h5];exact zpo hs g h
    | none =>
     rw [h5] at h;obtain ⟨x,h6,h⟩:=zaa h;rw [zb0 h6];split at h
     ·exact zpr hs g h
     ·exact zpp hs g h
def zlY{e:Expr}{c:Mc}(h:zlZ e=some c):e=.Call (.Attribute (.Name c.x c.px) c.m c.ap) [c.a] [] c.cp:=by
 unfold zlZ at h;obtain ⟨c1,h1,h⟩:=zaa h;split at h
 ·rename_i hk;obtain ⟨t,h2,h⟩:=zaa h;obtain ⟨x,h3,h⟩:=zaa h;obtain ⟨a,h4,h⟩:=zaa h;cases h;rw [zh7 h1,zhg h2,zb0 h3,zjT h4,ybI.mp hk]
 ·cases h
def zo5(hs:zaM cl G k rc)(g:Gd cl G k X nm N E full){e:Expr}{f:Fs}{pos:Pos}(h:zo6 G rc nm N e=some f):PS X (.Expr e pos) (tS cl E own f):=by
 unfold zo6 at h
 cases hc:zlZ e with
 | some c =>
  obtain ⟨x,px,m,ap,a,cp⟩:=c;obtain rfl:=zlY hc;rw [hc] at h;dsimp only at h;split at h
  ·rename_i hm;rw [yab] at hm;have em:=yah hm.1;subst em;obtain ⟨i,h1,h⟩:=zaa h;obtain ⟨fe,h2,h⟩:=zaa h;cases h;obtain ⟨s1,s2,s3,s4⟩:=g.gx.slot h1;obtain ⟨a1,_,a3⟩:=zau hs g.gx h2;exact zqd s1 s2 s3 s4 a1 (zaf a3) hm.2
  split at h
  ·cases h
  ·rename_i hc;obtain ⟨fe,h2,h⟩:=zaC h;subst h;exact zmW (zau hs g.gx h2).1 (zdV (by simpa using hc))
 | none =>
  rw [hc] at h;dsimp only at h;split at h
  ·cases h
  ·rename_i hc;obtain ⟨fe,h2,h⟩:=zaC h;subst h;exact zmW (zau hs g.gx h2).1 (zdV (by simpa using hc))
def zqE(hs:zaM cl G k rc)(g:Gd cl G k X nm N E full){e:Expr}{f:Fs}{pos:Pos}(h:ztv rc nm N own e=some f):PS X (.Return (some e) pos) (tS cl E own f):=by
 unfold ztv at h;split at h
 ·split at h
  ·obtain ⟨i,h1,h⟩:=zaC h;subst h;obtain ⟨s1,s2,s3,s4⟩:=g.gx.slot h1;exact znJ s1 s2 s3 s4
  ·obtain ⟨⟨o,fe⟩,h1,h⟩:=zaa h;dsimp only at h;split at h
   ·rename_i ho;cases h;exact znK ((hs X nm N E g.gx _ o fe h1).1 ho)
   ·cases h
 ·obtain ⟨fe,h2,h⟩:=zaC h;subst h;exact zp7 (zau hs g.gx h2).1
def ztj(hs:zaM cl G k rc){rs:Bool->List Stmt->Option Fs}(hr:∀(fl:Bool) (X:Cx) (E:St->XK),Gd cl G k X nm N E fl->∀b f,rs fl b=some f->PSs X b (tS cl E own f))(g:Gd cl G k X nm N E full){st:Stmt}{f:Fs}(h:stG G rc rs nm N own full st=some f):PS X st (tS cl E own f):=by
 cases st with
 | Pass p=>cases h;exact znO
 | Break p=>cases h;exact zqa
 | Assign ts e p =>
  obtain ⟨tg,h1,h⟩:=zaa (show ((zre ts).bind fun tg=>zsL G rc nm N tg e)=some f from h);obtain rfl:=zjT h1;exact zsf hs g h
 | Expr e p=>exact zo5 hs g h
 | AugAssign tg op e p =>
  obtain ⟨x,h1,hz⟩:=zaa (show ((zeD tg).bind fun x=>(zsJ op).bind fun gg=>(tgI true nm N N.length x.1).bind fun i=>(shE rc nm N e).bind fun f=>some (zqC i gg f))=some f from h);obtain ⟨gg,h2,hz⟩:=zaa hz;obtain ⟨i,h3,hz⟩:=zaa hz;obtain ⟨fe,h4,hz⟩:=zaa hz;cases hz;rw [zb0 h1];obtain ⟨_,a2,a3,a4,a5⟩:=zd3 g.gx g.sto h3;exact zqb h2 a2 a3 a4 (zau hs g.gx h4).1 a5
 | Return o p =>
  cases o with
  | some e=>exact zqE hs g h
  | none =>
   have h':(if own then none else some zlm)=some f:=h;split at h'
   ·cases h'
   ·rename_i ho;cases h'
    have:own=false:=by simpa using ho
    subst this;exact znL
 | If c a b p =>
  have h':(if zbg c then (shE rc nm N c).bind fun f=>(rs full a).bind fun g=>(rs full b).bind fun h=>some (sIf f g h) else none)=some f:=h;split at h'
  ·rename_i ht;obtain ⟨fc,h1,h⟩:=zaa h';obtain ⟨fa,h2,h⟩:=zaa h;obtain ⟨fb,h3,h⟩:=zaa h;cases h;exact ztk ((zau hs g.gx h1).2.1 ht) (hr full X E g a fa h2) (hr full X E g b fb h3)
  ·cases h'
 | For tg it body el p =>
  have h':(if full&&el.isEmpty then (ziB G rc nm N tg it).bind fun i=>(tgG true nm N N.length tg).bind fun t=>(rs full body).bind fun b=>some (zgN t i b) else none)=some f:=h;split at h'
  ·rename_i hf;rw [yab] at hf;obtain rfl:=ybI.mp hf.2;obtain ⟨it,h1,h⟩:=zaa h';obtain ⟨t,h2,h⟩:=zaa h;obtain ⟨fb,h3,h⟩:=zaa h;cases h;obtain ⟨i1,i2⟩:=zkf hs g.gx (tg:=_) h1;exact zp9 (g.own hf.1) g.gx.calm i1 (znA g.gx g.sto h2) (hr full X E g _ fb h3) (zfh i2)
  ·cases h'
 | Raise ea eb p =>
  have h':rzG G rc nm N full ea eb=some f:=h;unfold rzG at h';split at h'
  ·rename_i hb;obtain rfl:=Option.isNone_iff_eq_none.mp hb;obtain ⟨e0,e1,hz⟩:=zaa h';obtain ⟨c0,h1,hy⟩:=zaa hz;obtain ⟨⟨c,p⟩,h2,hx⟩:=zaa hy;have e2:=zh7 h1;obtain ⟨fn,args,kws,cp⟩:=c0;have e3:fn=.Name c p:=zb0 h2;clear h h' hz hy h1 h2;subst e1;subst e2;subst e3;dsimp only at hx ⊢;split at hx
   ·rename_i hf;simp only [yab] at hf;obtain ⟨⟨⟨⟨k0,a0⟩,f0⟩,g0⟩,x0⟩:=hf;obtain rfl:=ybI.mp k0
    cases args with
    | nil=>cases a0
    | cons e es =>
    obtain ⟨fs,h1,h⟩:=zaa hx;cases h;obtain ⟨g1,g2,_⟩:=g.gx.glob g0;obtain ⟨m,z⟩:=g.gx.gok.exc c x0;obtain ⟨a1,a2,_⟩:=zd4 hs g.gx h1;rw [ybp,yab] at a2;refine PS.imp (zjz (g.raises f0) g.gx.calm g1 m z a1 (za1 a2.1) (za4 a2.2) g2) ?_;rintro De σ H ⟨B,w,ρ,S,rfl,R,q⟩;refine ⟨B,w,ρ,S,rfl,R,?_⟩;unfold sRz at q
    cases hv:zae fs ρ S with
    | bad=>rwa [hv] at q
    | exc c S1=>rw [hv] at q;exact fun w' R' F'=>q σ w' R' F'
    | ok ds S1 =>
     rw [hv] at q;dsimp only at q
     cases hz:zaX ds.length with
     | false=>rw [hz,if_neg (by decide)] at q;exact q.elim
     | true =>
      rw [hz,if_pos rfl] at q;exact fun vs w' R' F' sh=>⟨by rw [sh.length];exact zaY hz,q σ w' R' F'⟩
   ·cases hx
  ·cases h'
 | _=>cases h
theorem zkX{ds:Stmt->Option Fs}(hd:∀st f,ds st=some f->PS X st (tS cl E own f)):∀{b:List Stmt} {f:Fs},blk ds b=some f->PSs X b (tS cl E own f)
 | [],f,h=>by cases h;exact zp8
 | s::r,f,h=>by
  unfold blk at h;obtain ⟨f1,h1,h⟩:=zaa h;obtain ⟨f2,h2,h⟩:=zaa h;cases h;exact znR (hd s f1 h1) (zkX hd h2)
theorem zh3:∀(n:Nat) (fl:Bool) (X:Cx) (E:St->XK),Gd cl G k X nm N E fl->∀st f,zmz G own n fl nm N st=some f->PS X st (tS cl E own f)
 | 0,_,_,_,_,_,_,h=>by cases h
 | n+1,fl,X,E,g,st,f,h=>by
  unfold zmz at h;obtain ⟨f1,h1,h⟩:=zaC h;subst h;exact ztl _ (ztj (znq n) (fun fl X E g b f hb=>zkX (fun st f hst=>zh3 n fl X E g st f hst) hb) g h1)
end
noncomputable def zbW(nN:Nat)(own:Bool)(fs:Fs)(ds:List D)(S:Sto):Out D:=match fs (ds.map (fun d=>some (false,d))++List.replicate (nN-ds.length) none) S with
 | .rt d S'=>.ok d S'
 | .nx _ S'=>if own then .bad else .ok .non S'
 | .ex c _ S'=>.exc c S'
 | _=>.bad
noncomputable def zao(G:Genv)(own:Bool)(N:List Str)(st:Stmt):Option Fs:=blk (zmz G own 40 true (zab st).names N) (zbA st)
def zrR{P:Program}{wo:PySem.World}{K:PySem.W.Frag}{mg:Z6}{base:Heap}{cl:Cf}{G:Genv}{k:Nat}{x qual:Str}{st:Stmt}{f:Addr}{fd:FuncData}{N ps:List Str}{own:Bool}{fs:Fs}(F:Fun K x qual st f fd)(S:FnScope N ps (zab st))(hG:GOk cl G P wo K mg base k)
  (hk:K=cl.K) (hP:P=cl.P) (hW:wo=cl.wo) (hd:zao G own N st=some fs):FnOk P wo K mg base (CXE P wo) (k+1) f fd ps (zik cl ps.length own (zbW N.length own fs)):=by
 obtain ⟨oc,od,kV,doc,pm,an,cdv,ct,osl,rfl,lk,hcd⟩:=F.ex;refine zuh lk hcd S (fun vs H Q E h=>h.1) fun A outer s H vs Q E hr hsp=>?_
 refine ⟨tS cl (fun _=>E) own fs,?_,?_⟩
 ·have g:Gd cl G k (zk9 (CXE P wo) P wo K mg base N qual (zab st) f cdv A outer s H E) (zab st).names N (fun _=>E) true :=
   ⟨⟨hG,hr,rfl,fun pins σ H1 s1 e s' I q=>ztF pins σ H1 s1 e s' I q,rfl,hk,hP,hW,S.nd,fun x kd h=>⟨kd,h,.inl rfl⟩,fun x h=>h⟩,fun _=>rfl,S.kind,rfl,fun _=>PassesOwn.leaving,fun _ C pins σ H1 s1 e h' vs I mk q=>zob C pins σ H1 s1 e h' vs I mk q,rfl,rfl⟩
  exact zkX (fun st f hst=>zh3 40 true _ _ g st f hst) hd
 ·obtain ⟨hl,B,w,ds,S0,rfl,W,sh,q⟩:=hsp;have hdl:ds.length=vs.length:=sh.length.symm;refine ⟨B,w,ds.map (fun d=>some (false,d))++List.replicate (N.length-ds.length) none,S0,rfl,⟨W,?_,fun i o d hi=>?_⟩,?_⟩
  ·unfold L2.ze2;rw [yaw,yaw,yaf,yaf,yaS,yaS,hdl]
  ·by_cases hlt:i<ds.length
   ·rw [yaL (by rw [yaf];exact hlt),yas] at hi
    cases hdi:ds[i]? with
    | none=>rw [hdi] at hi;cases hi
    | some d' =>
     rw [hdi] at hi;cases hi;obtain ⟨v,e1,e2⟩:=sh.at hdi;refine ⟨v,?_,e2⟩;unfold L2.ze2;rw [yaL (by rw [yaf];omega),yas,e1];rfl
   ·rw [yax (by rw [yaf];omega),ybE] at hi
    split at hi<;>cases hi
  ·unfold zbW at q
   cases hf:fs (ds.map (fun d=>some (false,d))++List.replicate (N.length-ds.length) none) S0 with
   | bad=>rwa [hf] at q
   | bk _ _=>rw [hf] at q;exact q.elim
   | ct _ _=>rw [hf] at q;exact q.elim
   | rt d S'=>rwa [hf] at q
   | ex c ρ' S'=>rw [hf] at q;exact fun σ' w' R' F'=>q w' R'.wd F'
   | nx ρ' S' =>
    rw [hf] at q;dsimp only at q
    cases own with
    | true=>exact q.elim
    | false=>exact fun σ' w' R' F'=>q .non w' R'.wd F' .non
end S2
namespace S2
open PySem PySem.Spec PyProof.Rows L2
structure Tab where
 con:List (Str×D)
 blt:List Str
 exc:List Str
 und:List (Str×Str)
 rz:List Str
 fk:List (Str×Str)
 df:List Str
 ds:List Str
noncomputable def zt8(rz exc:List Str)(c C:Str):Option Bool:=if rz.contains c then (if C = "ValueError" then some true else if exc.contains C then some (decide (C=c)||decide (C = "FloorError")) else none) else none
noncomputable def zvu(l:List (Str×Str))(c C:Str):Bool:=l.contains (c,C)
structure Fn3 where
 cur:Str
 fs:List (Str×FnI)
 ms:List (Str×Str×FnI)
 ks:List (Str×List D×FnI)
noncomputable def Gn(T:Tab)(F:Fn3):Genv:=⟨fun x=>T.con.lookup x,fun x=>F.fs.lookup x,fun x=>T.blt.contains x,fun x=>T.exc.contains x,zvu T.und,zt8 T.rz T.exc,⟨F.cur,zvu T.fk,fun f=>T.df.contains f,fun m=>F.ms.lookup m,fun c=>F.ks.lookup c⟩,fun x=>T.ds.contains x⟩
noncomputable def Fn3.fn(F:Fn3)(x:Str)(fi:FnI):Fn3:=⟨F.cur,(x,fi)::F.fs,F.ms,F.ks⟩
section
variable{cl:Cf}{T:Tab}{P:Program}{wo:PySem.World}{K:PySem.W.Frag}{mg:Z6}{base:Heap}{k:Nat}{fs:Fn3}
def zdG{α:Type}{x y:Str}{a:α}{l:List (Str×α)}{b:α}(h:((x,a)::l).lookup y=some b):(y=x/\b=a)\/l.lookup y=some b:=by
 rw [yaz] at h
 cases e:y == x with
 | true=>rw [e] at h;cases h;exact .inl ⟨eq_of_beq e,rfl⟩
 | false=>rw [e] at h;exact .inr h
def zeO{α:Type}{p:α->Prop}:∀x∈([]:List α),p x:=fun _ h=>nomatch h
def zay{α:Type}{p:α->Prop}{a:α}{l:List α}(h:p a)(t:∀x∈l,p x):∀x∈a::l,p x:=fun x hx=>(yap.mp hx).elim (fun e=>e ▸ h) (t x)
theorem zgc{α:Type}{x:Str}{a:α}:∀{l:List (Str×α)},l.lookup x=some a->(x,a)∈l
 | [],h=>by cases h
 | (y,b)::l,h=>by
  rcases zdG h with ⟨rfl,rfl⟩ | h
  ·exact yaE
  ·exact yav _ (zgc h)
noncomputable def zuI(K:PySem.W.Frag)(cl:Cf)(exc:List Str)(c:Str):Prop:=PySem.W.ExcCls K (cl c)/\PySem.W.kitOne K (.ref (cl c)) (.type "ValueError")=some true/\∀C∈exc,PySem.W.kitOne K (.ref (cl c)) (.ref (cl C))=some (decide (C=c)||decide (C = "FloorError"))
def zyp(hc:∀p∈T.con,∃v u,mg p.1=some u/\zaJ v u/\∀w,Shd cl w v p.2)(hb:∀x∈T.blt,mg x=none)(he:∀c∈T.exc,mg c=some (.ref (cl c))/\PySem.W.excIn K (cl c) bmV "ValueError.__new__" = true)(hu:∀p∈T.und,L2.zpt K (cl p.1) (cl p.2))(hx:∀c∈T.rz,zuI K cl T.exc c)(hfk:∀p∈T.fk,Cls cl.K (cl p.1)/\zcG cl.K (cl p.1) p.2):GOk cl (Gn T ⟨"",[],[],[]⟩) P wo K mg base 0 where
 fk:=fun c f h=>hfk (c,f) (by simpa using (show T.fk.contains (c,f)=true from h))
 mt:=fun m c fi h=>by cases h
 mks:=fun c dds fi h=>by cases h
 con:=fun x d h=>hc (x,d) (zgc h)
 fn:=fun x fi h=>by cases h
 blt:=fun x h=>hb x (by simpa using (show T.blt.contains x=true from h))
 exc:=fun c h=>he c (by simpa using (show T.exc.contains c=true from h))
 und:=fun c C h=>hu (c,C) (by simpa using (show T.und.contains (c,C)=true from h))
 isx:=fun c C b h=>by
  have h':zt8 T.rz T.exc c C=some b:=h;unfold zt8 at h';split at h'
  ·rename_i hc;obtain ⟨x1,x2,x3⟩:=hx c (by simpa using hc);refine ⟨x1,?_⟩;unfold zwN;split at h'
   ·rename_i hC;cases h';rw [if_pos hC];exact x2
   ·rename_i hC;rw [if_neg hC];split at h'
    ·rename_i hm;cases h';exact x3 C (by simpa using hm)
    ·cases h'
  ·cases h'
def GOk.add{x:Str}{fi:FnI}{f:Addr}{fd:FuncData}{ps:List Str}(g:GOk cl (Gn T fs) P wo K mg base k)(m:mg x=some (.ref f))(kp:PySem.W.keepIn K (.ref f)=true)(b:zcD K fd ps [])(F:FnOk P wo K mg base (CXE P wo) (k+1) f fd ps (zik cl fi.ar fi.own fi.run)) :
  GOk cl (Gn T (fs.fn x fi)) P wo K mg base (k+1) where
 con:=g.con
 fn:=fun y fj h=>by
  rcases zdG h with ⟨rfl,rfl⟩ | h
  ·exact ⟨f,fd,ps,m,kp,b,F⟩
  ·obtain ⟨f',fd',ps',h1,h2,h3,h4⟩:=g.fn y fj h;exact ⟨f',fd',ps',h1,h2,h3,h4.mono (yco _)⟩
 blt:=g.blt
 exc:=g.exc
 und:=g.und
 isx:=g.isx
 fk:=g.fk
 mt:=fun m c fi h=>by
  obtain ⟨f',fd',ps',h1,h2,h3,h4⟩:=g.mt m c fi h;exact ⟨f',fd',ps',h1,h2,h3,h4.mono (yco _)⟩
 mks:=fun c dds fi h=>by
  obtain ⟨f',fd',ps',dvs,ds,k',hk,z⟩:=g.mks c dds fi h;exact ⟨f',fd',ps',dvs,ds,k',Nat.le_succ_of_le hk,z⟩
end
noncomputable def zlh(K:PySem.W.Frag):Sp:=fun vs H Q _=>∃(a:Addr) (ns:List Int),vs=[.ref a]/\ns.length<=63/\zsM H/\SqL K H a (ns.map V.int)/\∀H',Q (.bl true) H'
def zrv{cl:Cf}{run:List D->Sto->Out D}(hr:∀l:List Int,l.length<=63->∃S,run [.scr l] []=.ok (.bl true) S):∀vs H Q E,zlh cl.K vs H Q E->zik cl 1 false run vs H Q E:=by
 rintro vs H Q E ⟨a,ns,rfl,hl,hO,hS,q⟩;refine ⟨rfl,⟨fun _=>none,fun _=>none⟩,⟨H,fun _=>none,[]⟩,[.scr ns],[],rfl,⟨(fun a o h=>by cases h),(fun a r h=>by cases h),rfl,(fun n ob h=>by simp at h)⟩,.cons ?_ .nil,?_⟩
 ·rcases hS with (hS | ⟨o,hS⟩) | hS
  ·rcases hO a with z | ⟨o,xs,z⟩
   ·rw [hS] at z;cases z
   ·rw [hS] at z;cases z
  ·exact .scr hS rfl
  ·exact .scrK fun H=>.inr hS
 ·obtain ⟨S',e⟩:=hr ns hl;rw [e];intro v w' _ _ r;have r':Shd cl w' v (.bl true):=r;cases r';exact q _
end S2
namespace S2
open PySem PySem.Spec PyProof.Rows L2
section
variable{cl:Cf}{T:Tab}{P:Program}{wo:PySem.World}{K:PySem.W.Frag}{mg:Z6}{base:Heap}{k:Nat}{fs:Fn3}
end
end S2
namespace S2
open PySem PySem.Spec PyProof.Rows L2
structure FnT(K:PySem.W.Frag)(x q:Str)(st:Stmt)(f:Addr):Prop where
 ex:∃(oc:Value) (od:Option Addr) (kV dc pm:Value) (an:Option Addr) (cd ct:Value) (sl:Array (Option Value)),K.lookup f=some ⟨oc,od,.func (PySem.W.fnOf x q (zbN st) (zbA st) (zab st) .none kV dc pm an cd ct),sl⟩/\PySem.W.codeIn K cd q=true/\PySem.W.keepIn K (.ref f)=true/\PySem.W.isFn K (.ref f)=true
structure GFn(K:PySem.W.Frag)(x:Str)(st:Stmt):Prop where
 ex:∃f,PySem.W.nsIn K mainGlobals x=some (some (.ref f))/\FnT K x x st f
structure MFn(K:PySem.W.Frag)(C:Addr)(m q:Str)(st:Stmt):Prop where
 ex:∃f,PySem.W.findIn K (.ref C) m=some (some (.ref f))/\FnT K m q st f
noncomputable def BB(x q:Str)(st:Stmt)(ps:List Str):Prop:=∀(kV doc pm:Value) (an:Option Addr) (cdv ct:Value) (us:List Value),us.length=ps.length->bindArgs (PySem.W.fnOf x q (zbN st) (zbA st) (zab st) .none kV doc pm an cdv ct) ⟨us,[]⟩=pure (ps.zip us)
def bb0{p:List Value->Prop}(h:p []):∀us:List Value,us.length=0->p us:=fun us e=>by rw [ya8 e];exact h
def bbS{n:Nat}{p:List Value->Prop}(h:∀a:Value,∀us:List Value,us.length=n->p (a::us)):∀us:List Value,us.length=n+1->p us:=fun us e=>by
 cases us with
 | nil=>cases e
 | cons a us=>exact h a us (Nat.succ.inj e)
def bb1{p:List Value->Prop}(h:∀a0:Value,p [a0]):∀us:List Value,us.length=1->p us:=bbS fun a0=>bb0 (h a0)
def bb2{p:List Value->Prop}(h:∀a0 a1:Value,p [a0,a1]):∀us:List Value,us.length=2->p us:=bbS fun a0=>bbS fun a1=>bb0 (h a0 a1)
def bb3{p:List Value->Prop}(h:∀a0 a1 a2:Value,p [a0,a1,a2]):∀us:List Value,us.length=3->p us:=bbS fun a0=>bbS fun a1=>bbS fun a2=>bb0 (h a0 a1 a2)
def bb4{p:List Value->Prop}(h:∀a0 a1 a2 a3:Value,p [a0,a1,a2,a3]):∀us:List Value,us.length=4->p us:=bbS fun a0=>bbS fun a1=>bbS fun a2=>bbS fun a3=>bb0 (h a0 a1 a2 a3)
def bb6{p:List Value->Prop}(h:∀a0 a1 a2 a3 a4 a5:Value,p [a0,a1,a2,a3,a4,a5]):∀us:List Value,us.length=6->p us:=bbS fun a0=>bbS fun a1=>bbS fun a2=>bbS fun a3=>bbS fun a4=>bbS fun a5=>bb0 (h a0 a1 a2 a3 a4 a5)
section
variable{cl:Cf}{T:Tab}{P:Program}{wo:PySem.World}{K:PySem.W.Frag}{mg:Z6}{base:Heap}{k:Nat}{fs:Fn3}
def FnT.un{x q:Str}{st:Stmt}{f:Addr}{ps:List Str}(p:FnT K x q st f)(b:BB x q st ps):∃fd,Fun K x q st f fd/\zcD K fd ps []/\PySem.W.keepIn K (.ref f)=true/\PySem.W.isFn K (.ref f)=true:=by
 obtain ⟨oc,od,kV,dc,pm,an,cd,ct,sl,l,c,kp,i⟩:=p.ex;have U:=znn (st:=st) l c kp;exact ⟨_,U,U.binds b,kp,i⟩
def GOk.addG{x:Str}{st:Stmt}{N ps:List Str}{own:Bool}{f_:Fs}{h:Heap}(g:GOk cl (Gn T fs) P wo K mg base k)(X:K.In h)(G:h.Ns mainGlobals mg)(p:GFn K x st)(S:FnScope N ps (zab st))(hK:K=cl.K)(hP:P=cl.P)(hW:wo=cl.wo)(b:BB x x st ps)(hd:zao (Gn T fs) own N st=some f_) :
  GOk cl (Gn T (fs.fn x ⟨ps.length,own,zbW N.length own f_⟩)) P wo K mg base (k+1):=by
 obtain ⟨f,a,p⟩:=p.ex;obtain ⟨fd,U,B,kp,_⟩:=p.un b;exact GOk.add g (yci X G a) kp B (zrR U S g hK hP hW hd)
end
end S2
namespace S2
open PySem
open L2 hiding D
noncomputable def zbi:Fs :=
  (zan (sFz [] (zbh (zhb (eUn (zdP "tuple") (zaj 0)) (zcb leD leD (zaj 1) (zar zc2 [(zaj 0)]) (zaj 2)))))
  sNx)
noncomputable def zap:List S2.D->Sto->Out S2.D:=zbW 3 false zbi
noncomputable def zeq:Fs :=
  (zan (sFz [] (zcc 1 false (eIf (zai gtD (zar zc2 [(zaj 0)]) (zal (.int 0))) (zar zc2 [(zai ixD (zaj 0) (zal (.int 0)))]) (zal (.int 0)))))
  (zan (sFz [1] (zbh (zg9 [(zar zc2 [(zaj 0)]),(zac 1)])))
  sNx))
noncomputable def zbP:List S2.D->Sto->Out S2.D:=zbW 2 false zeq
noncomputable def zbl:Fs :=
  (zan (sFz [3,4] (zln 2 (zg9 [(zac 3),(zac 4)]))) sNx)
noncomputable def zb7:Fs :=
  (zan (sFz [] (zgN (.one 4) (zdQ (zai ixD (zaj 1) (zal (.int 1)))) zbl)) sNx)
noncomputable def zcQ:Fs :=
  (zan (sFz [0] (zcc 1 false (eFn zbP [(zac 0)])))
  (zan (sFz [] (zcc 2 true (zkD [])))
  (zan (sFz [] (zgN (.one 3) (zdQ (zai ixD (zaj 1) (zal (.int 0)))) zb7))
  (zan (sFz [] (zjn 2))
  sNx))))
noncomputable def zbt:List S2.D->Sto->Out S2.D:=zbW 5 true zcQ
noncomputable def zb4:Fs :=
  (zan (sFz [1] (zbh (eFn zap [(zac 1),(zar zc2 [(zaj 0)]),(zar zc2 [(zaj 0)])])))
  sNx)
noncomputable def za3:List S2.D->Sto->Out S2.D:=zbW 2 false zb4
noncomputable def zdi:Fs :=
  (zan (sFz [1] (sIf (eUn zfl (eFn zap [(zac 1),(zar zc2 [(zaj 0)]),(zar zc2 [(zaj 0)])])) (zan (sFz [] (zbh (zal (.bl false)))) sNx) sNx))
  (zan (sFz [0,1] (zbh (zar zpG [(zbj 2 (.tup [0,1]) (zk8 (zac 0) (zac 1)) zbT (eFn za3 [(zac 0),(zac 1)]) [])])))
  sNx))
noncomputable def zcl:List S2.D->Sto->Out S2.D:=zbW 2 false zdi
noncomputable def zcS:Fs :=
  (zan (sFz [] (zbh (zai ixD (zai ixD (zaj 0) (zai ixD (zaj 1) (zal (.int 0)))) (zai ixD (zaj 1) (zal (.int 1))))))
  sNx)
noncomputable def zaF:List S2.D->Sto->Out S2.D:=zbW 2 false zcS
noncomputable def zb3:Fs :=
  (zan (sFz [0,0] (zbh (zbj 1 (.one 0) (zaz (eFn zbt [(zac 0)])) (zai ziv (eFn zaF [(zac 1),(zac 0)]) (zal .non)) (zac 0) [0])))
  sNx)
noncomputable def zah:List S2.D->Sto->Out S2.D:=zbW 1 true zb3
noncomputable def zbz:Fs :=
  (zan (sFz [] (sIf (zai ltD (zaj 1) (zar zc2 [(zaj 0)])) (zan (sFz [] (zbh (zai ixD (zaj 0) (zaj 1)))) sNx) sNx))
  (zan (sFz [] (sIf (zai eqD (zaj 0) (zkD [])) (zan (sFz [] (zbh (zal (.int 0)))) sNx) sNx))
  (zan (sFz [] (zbh (zai zbU (zai zgW (zai ixD (zaj 0) (zai zlX (zaj 1) (zar zc2 [(zaj 0)]))) (zal (.int 31))) (zaj 1))))
  sNx)))
noncomputable def za8:List S2.D->Sto->Out S2.D:=zbW 2 false zbz
noncomputable def zcV:Fs :=
  (zan (sFz [0,1] (zcc 3 false (zai zlX (zai zgW (zai zbU (eFn za8 [(zac 0),(zac 1)]) (zai zgW (zal (.int 6151)) (zai zbU (zaj 1) (zal (.int 1))))) (zal (.int 40692))) (zal (.int 2147483399)))))
  (zan (sFz [] (zbh (zai zlX (zai zlX (zai zbU (zai zgW (zaj 3) (zaj 3)) (zai zrY (zaj 3) (zal (.int 31)))) (zal (.int 2147483629))) (zaj 2))))
  sNx))
noncomputable def zak:List S2.D->Sto->Out S2.D:=zbW 4 false zcV
noncomputable def zaS:Fs :=
  (zan (sFz [1,3,5,0] (zcc 6 false (zar zbo [(zbj 1 (.one 0) (zdQ (zal (.int 4))) zbT (eFn zak [(zac 4),(zai zbU (zai zbU (zai zbU (zaj 1) (zai zgW (zal (.int 4)) (zaj 3))) (zal (.int 2))) (zaj 0)),(zac 2)]) [1,3,5,0])]))) (zan (sFz [0] (sIf (zai eqD (eFn zak [(zac 0),(zai zbU (zai zbU (zaj 1) (zal (.int 60))) (zaj 5)),(zal (.int 3))]) (zal (.int 0))) (zan (sFz [] (zcc 6 false (zg9 [(zai ixD (zaj 6) (zal (.int 0))),(zai ixD (zaj 6) (zal (.int 1))),(zai ixD (zaj 6) (zal (.int 0))),(zai ixD (zaj 6) (zal (.int 1)))]))) sNx) sNx)) (zan (sFz [] (sIf (zai zoD (zaj 6) (zaj 4)) (zan (sFz [6] (zln 4 (zac 6))) sNx) sNx)) sNx)))
noncomputable def zcq:Fs :=
  (zan (sFz [0,1] (zcc 3 false (zai zbU (zal (.int 2)) (eFn zak [(zac 0),(zac 1),(zal (.int 2))]))))
  (zan (sFz [] (zcc 4 true (zkD [])))
  (zan (sFz [0,2] (zgN (.one 5) (zdQ (zai zbU (zal (.int 1)) (eFn zak [(zac 0),(zai zbU (zaj 1) (zal (.int 1))),(zac 2)]))) zaS))
  (zan (sFz [] (zbh (zar zbo [(zaj 4)])))
  sNx))))
noncomputable def zbD:List S2.D->Sto->Out S2.D:=zbW 7 false zcq
noncomputable def zaT:Fs :=
  (zan (sFz [0] (zcc 10 false (eFn zak [(zac 0),(zai zbU (zai zbU (zaj 1) (zai zgW (zal (.int 7)) (zaj 7))) (zaj 9)),(zai zgW (zar zc2 [(zaj 2)]) (zaj 5))]))) (zan (sFz [10] (zln 8 (eIf (zai ltD (zaj 10) (zar zc2 [(zaj 2)])) (zac 10) (zal .non)))) sNx))
noncomputable def zbO:Fs :=
  (zan (sFz [] (zcc 8 true (zkD []))) (zan (sFz [4] (zgN (.one 9) (zdQ (zac 4)) zaT)) (zan (sFz [] (zln 6 (zar zbo [(zaj 8)]))) sNx)))
noncomputable def zcr:Fs :=
  (zan (sFz [] (zcc 6 true (zkD [])))
  (zan (sFz [3] (zgN (.one 7) (zdQ (zac 3)) zbO))
  (zan (sFz [] (zbh (zar zbo [(zaj 6)])))
  sNx)))
noncomputable def za0:List S2.D->Sto->Out S2.D:=zbW 11 false zcr
noncomputable def zcA:Fs :=
  (zan (sFz [] (zbh (zhb (eUn (zdP "int") (zaj 0)) (eUn zfl (eUn (zdP "bool") (zaj 0))))))
  sNx)
noncomputable def zaE:List S2.D->Sto->Out S2.D:=zbW 1 false zcA
noncomputable def zbG:Fs :=
  (zan (sFz [1] (zbh (zhb (eFn zaE [(zac 1)]) (zcb leD ltD (zal (.int 0)) (zaj 1) (zar zc2 [(zaj 0)])))))
  sNx)
noncomputable def zbb:List S2.D->Sto->Out S2.D:=zbW 2 false zbG
noncomputable def zcT:Fs :=
  (zan (sFz [1] (sIf (eOr (eUn zfl (eFn zap [(zac 1),(zal (.int 2)),(zal (.int 2))])) (eOr (eUn zfl (eFn zaE [(zai ixD (zaj 1) (zal (.int 0)))])) (eUn zfl (eFn zaE [(zai ixD (zaj 1) (zal (.int 1)))])))) (zan (sFz [] (zbh (zal (.bl false)))) sNx) sNx))
  (zan (sFz [0] (zcc 2 false (eFn zbP [(zac 0)])))
  (zan (sFz [] (zbh (zhb (zcb leD ltD (zal (.int 0)) (zai ixD (zaj 1) (zal (.int 0))) (zai ixD (zaj 2) (zal (.int 0)))) (zcb leD ltD (zal (.int 0)) (zai ixD (zaj 1) (zal (.int 1))) (zai ixD (zaj 2) (zal (.int 1)))))))
  sNx)))
noncomputable def zbv:List S2.D->Sto->Out S2.D:=zbW 3 false zcT
noncomputable def za5:Fs :=
  (zan (sFz [0,1] (sIf (eUn zfl (eFn zcl [(zac 0),(zac 1)])) (zan (sFz [] (sRz "Unlike" [(zal (.str "the sizes are unlike"))])) sNx) sNx))
  sNx)
noncomputable def zax:List S2.D->Sto->Out S2.D:=zbW 2 false za5
noncomputable def zdy:Fs :=
  (zan (sFz [0,1] (zbh (zar zbo [(zbj 2 (.tup [0,1]) (zk8 (zac 0) (zac 1)) zbT (eIf (zai zmg (zaj 1) (zal .non)) (zac 0) (zac 1)) [])])))
  sNx)
noncomputable def zbQ:List S2.D->Sto->Out S2.D:=zbW 2 false zdy
noncomputable def zkz:Fs :=
  (zan (sFz [0,1] (zmZ (eFn zax [(zac 0),(zac 1)])))
  (zan (sFz [0,1] (zbh (zar zbo [(zbj 2 (.tup [0,1]) (zk8 (zac 0) (zac 1)) zbT (eFn zbQ [(zac 0),(zac 1)]) [])])))
  sNx))
noncomputable def zhD:List S2.D->Sto->Out S2.D:=zbW 2 false zkz
noncomputable def zfB:Fs :=
  (zan (sFz [1,2] (zcc 1 false (eFn zhD [(zac 1),(zac 2)]))) sNx)
noncomputable def zky:Fs :=
  (zan (sFz [] (zcc 1 false (zai ixD (zaj 0) (zal (.int 0)))))
  (zan (sFz [] (zgN (.one 2) (zaz (eSl (zaj 0) (some (zal (.int 1))) none)) zfB))
  (zan (sFz [1] (zbh (zac 1)))
  sNx)))
noncomputable def zda:List S2.D->Sto->Out S2.D:=zbW 3 false zky
noncomputable def zcP:Fs :=
  (zan (sFz [0,1] (zbh (zar zbo [(zbj 2 (.tup [0,1]) (zk8 (zac 0) (zac 1)) zbT (eIf (zai zmg (zaj 1) (zal .non)) (zac 0) (zal .non)) [])])))
  sNx)
noncomputable def zbs:List S2.D->Sto->Out S2.D:=zbW 2 false zcP
noncomputable def zg6:Fs :=
  (zan (sFz [0,1] (zmZ (eFn zax [(zac 0),(zac 1)])))
  (zan (sFz [0,1] (zbh (zar zbo [(zbj 2 (.tup [0,1]) (zk8 (zac 0) (zac 1)) zbT (eFn zbs [(zac 0),(zac 1)]) [])])))
  sNx))
noncomputable def zfd:List S2.D->Sto->Out S2.D:=zbW 2 false zg6
noncomputable def zb6:Fs :=
  (zan (sFz [2,3] (zcc 2 false (eFn zfd [(zac 2),(zac 3)]))) sNx)
noncomputable def zcO:Fs :=
  (zan (sFz [0] (zcc 2 false (zac 0)))
  (zan (sFz [1] (zgN (.one 3) (zaz (zac 1)) zb6))
  (zan (sFz [2] (zbh (zac 2)))
  sNx)))
noncomputable def zbr:List S2.D->Sto->Out S2.D:=zbW 4 false zcO
noncomputable def zcR:Fs :=
  (zan (sFz [0,0] (zbh (zbj 2 (.tup [0,1]) (zkF (zac 0)) zbT (eFn zbr [(zac 1),(eSl (zaj 2) (some (zai zbU (zaj 0) (zal (.int 1)))) none)]) [0])))
  sNx)
noncomputable def zbu:List S2.D->Sto->Out S2.D:=zbW 1 true zcR
noncomputable def zfu:Fs :=
  (zan (sFz [0,0] (zbh (zbj 2 (.tup [0,1]) (zk8 (zac 0) (eFn zbu [(zac 0)])) zbT (zai zpy (zar zc2 [(eFn zah [(zac 0)])]) (zar zc2 [(eFn zah [(zac 1)])])) [])))
  sNx)
noncomputable def zdW:List S2.D->Sto->Out S2.D:=zbW 1 true zfu
noncomputable def zcW:Fs :=
  (zan (sFz [] (zbh (eIf (zai eqD (zai zlX (zaj 1) (zai ixD (zpa "Ways" "size" (zac 0)) (zal (.int 1)))) (zal (.int 0))) (zai ixD (zaj 3) (zal (.int 3))) (zai ixD (zaj 2) (eUn zpA (zal (.int 1)))))))
  sNx)
noncomputable def zcJ:List S2.D->Sto->Out S2.D:=zbW 4 false zcW
noncomputable def zdh:Fs :=
  (zan (sFz [0,1] (zbh (eOr (zai zmg (zaj 1) (zal .non)) (eFn zbb [(zac 0),(zac 1)]))))
  sNx)
noncomputable def zck:List S2.D->Sto->Out S2.D:=zbW 2 false zdh
noncomputable def zbd:Fs :=
  (zan (sFz [0,1] (sIf (eUn zfl (eFn zbv [(zac 0),(zac 1)])) (zan (sFz [] (sRz "NoPlace" [(zal (.str "there is no such place"))])) sNx) sNx))
  sNx)
noncomputable def zaV:List S2.D->Sto->Out S2.D:=zbW 2 false zbd
noncomputable def zb2:Fs :=
  (zan (sFz [] (zcc 3 false (zai ixD (zaj 0) (zai ixD (zaj 1) (zal (.int 0))))))
  (zan (sFz [2] (zcc 4 false (zai zbU (zai zbU (eSl (zaj 3) none (some (zai ixD (zaj 1) (zal (.int 1))))) (zg9 [(zac 2)])) (eSl (zaj 3) (some (zai zbU (zai ixD (zaj 1) (zal (.int 1))) (zal (.int 1)))) none))))
  (zan (sFz [4] (zbh (zai zbU (zai zbU (eSl (zaj 0) none (some (zai ixD (zaj 1) (zal (.int 0))))) (zg9 [(zac 4)])) (eSl (zaj 0) (some (zai zbU (zai ixD (zaj 1) (zal (.int 0))) (zal (.int 1)))) none))))
  sNx)))
noncomputable def za2:List S2.D->Sto->Out S2.D:=zbW 5 false zb2
noncomputable def zep:Fs :=
  (zan (sFz [0,1] (zmZ (eFn zaV [(zac 0),(zac 1)])))
  (zan (sFz [0,1] (zbh (eFn zaF [(zac 0),(zac 1)])))
  sNx))
noncomputable def zcj:List S2.D->Sto->Out S2.D:=zbW 2 false zep
end S2
namespace S2
open PySem
open L2 hiding D
noncomputable def Fo.seq(b:Fs):Fo->Fo | .nx ρ' S'=>b ρ' S' | o=>o
noncomputable def zsz(a b:Fs)(ρ:Env):Out D->Fo | .ok d S'=>(match isB d with | some true=>a ρ S' | some false=>b ρ S' | none=>.bad) | .exc x S'=>.ex x ρ S' | .bad=>.bad
noncomputable def zt5(i:Nat)(o:Bool)(ρ:Env):Out D->Fo | .ok d S'=>.nx (ρ.set i (some (o,d))) S' | .exc c S'=>.ex c ρ S' | .bad=>.bad
noncomputable def zt3(ρ:Env):Out D->Fo | .ok _ S'=>.nx ρ S' | .exc c S'=>.ex c ρ S' | .bad=>.bad
noncomputable def zt1(ρ:Env):Out D->Fo | .ok d S'=>.rt d S' | .exc c S'=>.ex c ρ S' | .bad=>.bad
noncomputable def zrE(S:Sto):Option (Option (Bool×D))->Fo | some (some (true,d))=>.rt d S | _=>.bad
noncomputable def zme(i:Nat)(ρ:Env)(l:List D):Out D->Fo
 | .ok d S'=>if zaX l.length then .nx (ρ.set i (some (true,.lst (l++[d])))) S' else .bad
 | .exc c S'=>.ex c ρ S' | .bad=>.bad
noncomputable def zwH(i:Nat)(f:Fe)(ρ:Env)(S:Sto):Option (Option (Bool×D))->Fo | some (some (true,.lst l))=>zme i ρ l (f ρ S) | _=>.bad
noncomputable def zoP(i j:Nat)(o1 o2:Bool)(d1:D)(ρ:Env):Out D->Fo | .ok d2 S2=>.nx ((ρ.set i (some (o1,d1))).set j (some (o2,d2))) S2 | .exc c S'=>.ex c ρ S' | .bad=>.bad
noncomputable def zwy(i j:Nat)(o1 o2:Bool)(g:Fe)(ρ:Env):Out D->Fo | .ok d1 S1=>zoP i j o1 o2 d1 ρ (g ρ S1) | .exc c S'=>.ex c ρ S' | .bad=>.bad
noncomputable def zt2(S:Sto):Option Env->Fo | some ρ'=>.nx ρ' S | none=>.bad
noncomputable def zoV(t:Tg)(ρ:Env):Out D->Fo | .ok d S'=>zt2 S' (t.put ρ d) | .exc c S'=>.ex c ρ S' | .bad=>.bad
noncomputable def zwD(t:Tg)(a:Fs)(ρ:Env):Out (List D)->Fo | .ok ds S'=>zd1 t a ds ρ S' | .exc c S'=>.ex c ρ S' | .bad=>.bad
noncomputable def zwu(S:Sto):Option (Option (Bool×D))->Out D | some (some (false,d))=>.ok d S | _=>.bad
noncomputable def zwG(S:Sto):Option (Option (Bool×D))->Out D | some (some (_,d))=>.ok d S | _=>.bad
noncomputable def kUn(u:D->Option D):Out D->Out D | .ok a S=>Out.of (u a) S | .exc c S=>.exc c S | .bad=>.bad
noncomputable def zkc(u:D->D->Option D)(a:D):Out D->Out D | .ok b S=>Out.of (u a b) S | .exc c S=>.exc c S | .bad=>.bad
noncomputable def zt4(u:D->D->Option D)(g:Fe)(ρ:Env):Out D->Out D | .ok a S=>zkc u a (g ρ S) | .exc c S=>.exc c S | .bad=>.bad
noncomputable def kIf(f g:Fe)(ρ:Env):Out D->Out D | .ok d S1=>(match isB d with | some true=>f ρ S1 | some false=>g ρ S1 | none=>.bad) | .exc c S=>.exc c S | .bad=>.bad
noncomputable def zt6(g:Fe)(ρ:Env):Out D->Out D | .ok d S1=>(match isB d with | some true=>g ρ S1 | some false=>.ok (.bl false) S1 | none=>.bad) | .exc c S=>.exc c S | .bad=>.bad
noncomputable def kOr(g:Fe)(ρ:Env):Out D->Out D | .ok d S1=>(match isB d with | some true=>.ok (.bl true) S1 | some false=>g ρ S1 | none=>.bad) | .exc c S=>.exc c S | .bad=>.bad
noncomputable def zge(d:D):Out (List D)->Out (List D) | .ok ds S=>.ok (d::ds) S | .exc c S=>.exc c S | .bad=>.bad
noncomputable def zoS(fs:List Fe)(ρ:Env):Out D->Out (List D) | .ok d S=>zge d (zae fs ρ S) | .exc c S=>.exc c S | .bad=>.bad
noncomputable def zwv:Out (List D)->Out D | .ok ds S=>if zaX ds.length then .ok (.tup ds) S else .bad | .exc c S=>.exc c S | .bad=>.bad
noncomputable def zwA:Out (List D)->Out D | .ok ds S=>if zaX ds.length then .ok (.lst ds) S else .bad | .exc c S=>.exc c S | .bad=>.bad
noncomputable def zoU(u:List D->Option D):Out (List D)->Out D | .ok ds S=>Out.of (u ds) S | .exc c S=>.exc c S | .bad=>.bad
noncomputable def kFn(r:List D->Sto->Out D):Out (List D)->Out D | .ok ds S=>r ds S | .exc c S=>.exc c S | .bad=>.bad
noncomputable def zej(v:D->D->Option D)(b:D):Out D->Out D | .ok c S=>Out.of (v b c) S | .exc c S=>.exc c S | .bad=>.bad
noncomputable def zei(v:D->D->Option D)(h:Fe)(ρ:Env)(b:D)(S:Sto):Option D->Out D | some d=>(match isB d with | some true=>zej v b (h ρ S) | some false=>.ok (.bl false) S | none=>.bad) | none=>.bad
noncomputable def zfp(u v:D->D->Option D)(h:Fe)(ρ:Env)(a:D):Out D->Out D | .ok b S=>zei v h ρ b S (u a b) | .exc c S=>.exc c S | .bad=>.bad
noncomputable def zne(u v:D->D->Option D)(g h:Fe)(ρ:Env):Out D->Out D | .ok a S=>zfp u v h ρ a (g ρ S) | .exc c S=>.exc c S | .bad=>.bad
noncomputable def zwB:Out D->Out (Option Int) | .ok (.int i) S=>.ok (some i) S | .ok _ _=>.bad | .exc c S=>.exc c S | .bad=>.bad
noncomputable def zsu(d:D)(l:Option Int):Out (Option Int)->Out D | .ok u S=>Out.of (slD d l u) S | .exc c S=>.exc c S | .bad=>.bad
noncomputable def zsv(d:D)(u:Option Fe)(ρ:Env):Out (Option Int)->Out D | .ok l S=>zsu d l (zcd u ρ S) | .exc c S=>.exc c S | .bad=>.bad
noncomputable def kSl(l u:Option Fe)(ρ:Env):Out D->Out D | .ok d S=>zsv d u ρ (zcd l ρ S) | .exc c S=>.exc c S | .bad=>.bad
noncomputable def zj9:Out D->Out (List D) | .ok (.lst l) S=>.ok l S | .ok (.tup l) S=>.ok l S | .ok _ _=>.bad | .exc c S=>.exc c S | .bad=>.bad
noncomputable def zoR:Out (List D)->Out (List D) | .ok [.lst l] S=>.ok (zdk l) S | .ok [.tup l] S=>.ok (zdk l) S | .ok _ _=>.bad | .exc c S=>.exc c S | .bad=>.bad
noncomputable def zrA:Out (List D)->Out (List D) | .ok ds S1=>(match ds with | [x,y]=>(match zqm x,zqm y with | some l,some k=>.ok (zdU l k) S1 | _,_=>.bad) | _=>.bad) | .exc c S=>.exc c S | .bad=>.bad
noncomputable def zrD:Out (List D)->Out (List D) | .ok ds S1=>(match ds with | [.int j]=>if -1000000<=j/\j<=1000000 then .ok (zaB 0 j) S1 else .bad | _=>.bad) | .exc c S=>.exc c S | .bad=>.bad
noncomputable def zrC:Out (List D)->Out (List D) | .ok ds S1=>(match ds with | [.int i,.int j]=>if (-1000000<=i/\i<=1000000)/\-1000000<=j/\j<=1000000 then .ok (zaB i j) S1 else .bad | _=>.bad) | .exc c S=>.exc c S | .bad=>.bad
noncomputable def zkb:Out (List D)->Out D | .ok ys S2=>if zaX ys.length then .ok (.lst ys) S2 else .bad | _=>.bad
noncomputable def zoT(tg:Tg)(c elt:Fe)(ρ0:Env):Out (List D)->Out D | .ok ds S1=>zkb (zaH tg c elt ρ0 ds S1) | .exc c S=>.exc c S | .bad=>.bad
noncomputable def zwF:Option (Option (Bool×D))->Option (Bool×D) | some (some (false,d))=>some (false,d) | _=>none
noncomputable def zsA(ρ:Env)(i:Nat):Option (Option (Bool×D))->Env | some (some (true,d))=>ρ.set i (some (false,d)) | _=>ρ
noncomputable def zsw(own:Bool):Fo->Out D | .rt d S'=>.ok d S' | .nx _ S'=>if own then .bad else .ok .non S' | .ex c _ S'=>.exc c S' | _=>.bad
noncomputable def kRz(c:Str)(ρ:Env):Out (List D)->Fo | .ok ds S'=>if zaX ds.length then .ex c ρ S' else .bad | .exc x S'=>.ex x ρ S' | .bad=>.bad
noncomputable def zsx(u:List D->D->Option D)(l:List D):Out D->Out D | .ok d S=>Out.of (u l d) S | .exc c S=>.exc c S | .bad=>.bad
noncomputable def kMt(u:List D->D->Option D)(f:Fe)(ρ:Env)(S:Sto):Option (Option (Bool×D))->Out D | some (some (_,.lst l))=>zsx u l (f ρ S) | _=>.bad
section
variable{ρ:Env}{S:Sto}{f g h k c:Fe}{a b:Fs}
@[simp] def zxj{u:List D->D->Option D}{i:Nat}:eMt u i f ρ S=kMt u f ρ S ρ[i]?:=by
 show (match ρ[i]? with | some (some (_,.lst l))=>(f ρ S).bind fun d S1=>Out.of (u l d) S1 | _=>.bad)=_
 cases ρ[i]? with
 | none=>rfl
 | some o=>cases o with
  | none=>rfl
  | some p =>
   obtain ⟨b,d⟩:=p
   cases d with
   | lst l=>show ((f ρ S).bind fun d S1=>Out.of (u l d) S1)=zsx u l (f ρ S);cases f ρ S<;>rfl
   | _=>rfl
@[simp] def zyM{u:List D->D->Option D}{o:Bool}{l:List D}:kMt u f ρ S (some (some (o,.lst l)))=zsx u l (f ρ S):=(rfl)
@[simp] def zxY{u:List D->D->Option D}{l:List D}{d:D}:zsx u l (.ok d S)=Out.of (u l d) S:=(rfl)
@[simp] def zuN:zan a b ρ S=(a ρ S).seq b:=by
 show (match a ρ S with | .nx ρ' S'=>b ρ' S' | o=>o)=_
 cases a ρ S<;>rfl
@[simp] def zvW:(Fo.nx ρ S).seq b=b ρ S:=(rfl)
@[simp] def zvV{d:D}:(Fo.rt d S).seq b=.rt d S:=(rfl)
@[simp] def zvU:(Fo.bk ρ S).seq b=.bk ρ S:=(rfl)
@[simp] def zvT:(Fo.ct ρ S).seq b=.ct ρ S:=(rfl)
@[simp] def zvS{x:Str}:(Fo.ex x ρ S).seq b=.ex x ρ S:=(rfl)
@[simp] def zvR:Fo.bad.seq b=.bad:=(rfl)
@[simp] def zsZ:zun ρ S=.ok (zwL []) S:=(rfl)
@[simp] def zs0:zmt ρ S=.ok (zcY []) S:=(rfl)
def zgJ{i:Nat}{o:Bool}{ps:List (Int×Int)}(h:ρ[i]?=some (some (o,zcY ps))):zeB i ρ=some (o,ps):=by
 unfold zeB;rw [h];show (ziQ (dsI ps)).map _=_;rw [zdX];rfl
def zrQ{i:Nat}{o:Bool}{ps:List (Int×Int)}{f g:Fe}{z:D}{j:Int}{S1 S2:Sto}(h:ρ[i]?=some (some (o,zcY ps)))(hf:f ρ S=.ok (.int j) S1)(hg:g ρ S1=.ok z S2):zgo i f g ρ S=.ok (((zbK ps j).map D.int).getD z) S2:=by
 unfold zgo;rw [zgJ h];dsimp only;rw [hf];dsimp only [Out.bind];rw [hg]
def zqN{i:Nat}{ps:List (Int×Int)}{fk fe:Fe}{j v:Int}{S1 S2:Sto}(h:ρ[i]?=some (some (true,zcY ps)))(he:fe ρ S=.ok (.int v) S1)(hf:fk ρ S1=.ok (.int j) S2)(hl:ps.length<=100000):zgL i fk fe ρ S=.nx (ρ.set i (some (true,zcY (zir ps j v)))) S2:=by
 unfold zgL;rw [zgJ h];dsimp only;rw [he];dsimp only;rw [hf];dsimp only;rw [if_pos (show zaX ps.length=true from yaQ hl)]
def zt7{i:Nat}{o:Bool}{ps:List (Int×Int)}{l:List D}(h:ρ[i]?=some (some (o,zcY ps)))(hs:zpz ps=some l):zpC i ρ S=.ok (.lst l) S:=by
 unfold zpC;rw [zgJ h];dsimp only;rw [hs]
@[simp] def zw0{is:List Nat}:sFz is a ρ S=a (frz is ρ) S:=(rfl)
@[simp] def zvd:frz [] ρ=ρ:=(rfl)
@[simp] def zvc{i:Nat}{is:List Nat}:frz (i::is) ρ=frz is (frz1 ρ i):=(rfl)
@[simp] def zxe(i:Nat):frz1 ρ i=zsA ρ i ρ[i]?:=(rfl)
@[simp] def zwe{i:Nat}{d:D}:zsA ρ i (some (some (true,d)))=ρ.set i (some (false,d)):=(rfl)
@[simp] def zwd{i:Nat}{d:D}:zsA ρ i (some (some (false,d)))=ρ:=(rfl)
@[simp] def zwc{i:Nat}:zsA ρ i (some none)=ρ:=(rfl)
@[simp] def zwY:sNx ρ S=.nx ρ S:=(rfl)
@[simp] def zw1:sBk ρ S=.bk ρ S:=(rfl)
@[simp] def zuS{i:Nat}{o:Bool}:zcc i o f ρ S=zt5 i o ρ (f ρ S):=(rfl)
@[simp] def zwp{i:Nat}{o:Bool}{d:D}:zt5 i o ρ (.ok d S)=.nx (ρ.set i (some (o,d))) S:=(rfl)
@[simp] def zwo{i:Nat}{o:Bool}{x:Str}:zt5 i o ρ (.exc x S)=.ex x ρ S:=(rfl)
@[simp] def zuR:zmZ f ρ S=zt3 ρ (f ρ S):=(rfl)
@[simp] def zwh{d:D}:zt3 ρ (.ok d S)=.nx ρ S:=(rfl)
@[simp] def zwg{x:Str}:zt3 ρ (.exc x S)=.ex x ρ S:=(rfl)
@[simp] def zuO:zbh f ρ S=zt1 ρ (f ρ S):=(rfl)
@[simp] def zv4{d:D}:zt1 ρ (.ok d S)=.rt d S:=(rfl)
@[simp] def zv3{x:Str}:zt1 ρ (.exc x S)=.ex x ρ S:=(rfl)
@[simp] def zsR:zlm ρ S=.rt .non S:=(rfl)
@[simp] def zsQ{i:Nat}:zjn i ρ S=zrE S ρ[i]?:=(rfl)
@[simp] def zv2{d:D}:zrE S (some (some (true,d)))=.rt d S:=(rfl)
@[simp] def zwZ:sIf c a b ρ S=zsz a b ρ (c ρ S):=(rfl)
@[simp] def zwb:zsz a b ρ (.ok (.bl true) S)=a ρ S:=(rfl)
@[simp] def zwa:zsz a b ρ (.ok (.bl false) S)=b ρ S:=(rfl)
@[simp] def zv9{x:Str}:zsz a b ρ (.exc x S)=.ex x ρ S:=(rfl)
@[simp] def zuT{i:Nat}:zln i f ρ S=zwH i f ρ S ρ[i]?:=(rfl)
@[simp] def zyk{i:Nat}{l:List D}:zwH i f ρ S (some (some (true,.lst l)))=zme i ρ l (f ρ S):=(rfl)
@[simp] def zwr{i:Nat}{l:List D}{d:D}:zme i ρ l (.ok d S)=if zaX l.length then .nx (ρ.set i (some (true,.lst (l++[d])))) S else .bad:=(rfl)
@[simp] def zwq{i:Nat}{l:List D}{x:Str}:zme i ρ l (.exc x S)=.ex x ρ S:=(rfl)
@[simp] def zuP{i j:Nat}{o1 o2:Bool}:zqz i j o1 f o2 g ρ S=zwy i j o1 o2 g ρ (f ρ S):=(rfl)
@[simp] def zxU{i j:Nat}{o1 o2:Bool}{d:D}:zwy i j o1 o2 g ρ (.ok d S)=zoP i j o1 o2 d ρ (g ρ S):=(rfl)
@[simp] def zv6{i j:Nat}{o1 o2:Bool}{d e:D}:zoP i j o1 o2 d ρ (.ok e S)=.nx ((ρ.set i (some (o1,d))).set j (some (o2,e))) S:=(rfl)
@[simp] def zsU{t:Tg}:ze5 t f ρ S=zoV t ρ (f ρ S):=by
 unfold ze5 zoV
 cases f ρ S with
 | ok d S'=>dsimp only;cases t.put ρ d<;>rfl
 | exc c S'=>rfl
 | bad=>rfl
@[simp] def zwn{t:Tg}{d:D}:zoV t ρ (.ok d S)=zt2 S (t.put ρ d):=(rfl)
@[simp] def zxT{ρ':Env}:zt2 S (some ρ')=.nx ρ' S:=(rfl)
@[simp] def zuQ{t:Tg}{it:Fi}:zgN t it a ρ S=zwD t a ρ (it ρ S):=(rfl)
@[simp] def zx7{t:Tg}{ds:List D}:zwD t a ρ (.ok ds S)=zd1 t a ds ρ S:=(rfl)
@[simp] def zwX{x:Str}{fs:List Fe}:sRz x fs ρ S=kRz x ρ (zae fs ρ S):=(rfl)
@[simp] def zyL{x:Str}{ds:List D}:kRz x ρ (.ok ds S)=if zaX ds.length then .ex x ρ S else .bad:=(rfl)
@[simp] def zuZ{i:Nat}{d:D}:(Tg.one i).put ρ d=some (ρ.set i (some (false,d))):=(rfl)
@[simp] def zuW{is:List Nat}{ds:List D}:(Tg.tup is).put ρ (.tup ds)=zdF is ds ρ:=(rfl)
@[simp] def zuY{i:Nat}{is:List Nat}{d:D}{ds:List D}:zdF (i::is) (d::ds) ρ=zdF is ds (ρ.set i (some (false,d))):=(rfl)
@[simp] def zuX:zdF [] [] ρ=some ρ:=(rfl)
@[simp] def zvf{i:Nat}:zac i ρ S=zwu S ρ[i]?:=(rfl)
@[simp] def zxM{d:D}:zwu S (some (some (false,d)))=.ok d S:=(rfl)
@[simp] def zvm{i:Nat}:zaj i ρ S=zwG S ρ[i]?:=(rfl)
@[simp] def zyj{o:Bool}{d:D}:zwG S (some (some (o,d)))=.ok d S:=(rfl)
@[simp] def zvl{d:D}:zal d ρ S=.ok d S:=(rfl)
@[simp] def zxg{u:D->Option D}:eUn u f ρ S=kUn u (f ρ S):=by
 unfold eUn;cases f ρ S<;>rfl
@[simp] def zxO{u:D->Option D}{d:D}:kUn u (.ok d S)=Out.of (u d) S:=(rfl)
@[simp] def zxN{u:D->Option D}{x:Str}:kUn u (.exc x S)=.exc x S:=(rfl)
@[simp] def zvn{u:D->D->Option D}:zai u f g ρ S=zt4 u g ρ (f ρ S):=by
 unfold zai
 cases f ρ S with
 | ok a S1=>show ((g ρ S1).bind fun b S2=>Out.of (u a b) S2)=zkc u a (g ρ S1);cases g ρ S1<;>rfl
 | exc c S=>rfl
 | bad=>rfl
@[simp] def zwm{u:D->D->Option D}{d:D}:zt4 u g ρ (.ok d S)=zkc u d (g ρ S):=(rfl)
@[simp] def zwl{u:D->D->Option D}{x:Str}:zt4 u g ρ (.exc x S)=.exc x S:=(rfl)
@[simp] def zwk{u:D->D->Option D}{d e:D}:zkc u d (.ok e S)=Out.of (u d e) S:=(rfl)
@[simp] def zwj{u:D->D->Option D}{d:D}{x:Str}:zkc u d (.exc x S)=.exc x S:=(rfl)
@[simp] def zxl:eIf c f g ρ S=kIf f g ρ (c ρ S):=by
 unfold eIf;cases c ρ S<;>rfl
@[simp] def zx5:kIf f g ρ (.ok (.bl true) S)=f ρ S:=(rfl)
@[simp] def zx4:kIf f g ρ (.ok (.bl false) S)=g ρ S:=(rfl)
@[simp] def zvo:zhb f g ρ S=zt6 g ρ (f ρ S):=by
 unfold zhb;cases f ρ S<;>rfl
@[simp] def zwt:zt6 g ρ (.ok (.bl true) S)=g ρ S:=(rfl)
@[simp] def zws:zt6 g ρ (.ok (.bl false) S)=.ok (.bl false) S:=(rfl)
@[simp] def zxi:eOr f g ρ S=kOr g ρ (f ρ S):=by
 unfold eOr;cases f ρ S<;>rfl
@[simp] def zxW:kOr g ρ (.ok (.bl true) S)=.ok (.bl true) S:=(rfl)
@[simp] def zxV:kOr g ρ (.ok (.bl false) S)=g ρ S:=(rfl)
@[simp] def zsW:zae [] ρ S=.ok [] S:=(rfl)
@[simp] def zsX{fs:List Fe}:zae (f::fs) ρ S=zoS fs ρ (f ρ S):=by
 show ((f ρ S).bind fun d S1=>(zae fs ρ S1).bind fun ds S2=>.ok (d::ds) S2)=_
 cases f ρ S with
 | ok a S1=>show ((zae fs ρ S1).bind fun ds S2=>.ok (a::ds) S2)=zge a (zae fs ρ S1);cases zae fs ρ S1<;>rfl
 | exc c S=>rfl
 | bad=>rfl
@[simp] def ztX{fs:List Fe}{d:D}:zoS fs ρ (.ok d S)=zge d (zae fs ρ S):=(rfl)
@[simp] def ztW{fs:List Fe}{x:Str}:zoS fs ρ (.exc x S)=.exc x S:=(rfl)
@[simp] def ztV{d:D}{ds:List D}:zge d (.ok ds S)=.ok (d::ds) S:=(rfl)
@[simp] def ztU{d:D}{x:Str}:zge d (.exc x S)=.exc x S:=(rfl)
@[simp] def zvg{fs:List Fe}:zg9 fs ρ S=zwv (zae fs ρ S):=by
 unfold zg9;cases zae fs ρ S<;>rfl
@[simp] def zxP{ds:List D}:zwv (.ok ds S)=if zaX ds.length then .ok (.tup ds) S else .bad:=(rfl)
@[simp] def zvi{fs:List Fe}:zkD fs ρ S=zwA (zae fs ρ S):=by
 unfold zkD;cases zae fs ρ S<;>rfl
@[simp] def zx0{ds:List D}:zwA (.ok ds S)=if zaX ds.length then .ok (.lst ds) S else .bad:=(rfl)
@[simp] def zs1{u:List D->Option D}{fs:List Fe}:zar u fs ρ S=zoU u (zae fs ρ S):=by
 unfold zar;cases zae fs ρ S<;>rfl
@[simp] def zt0{u:List D->Option D}{ds:List D}:zoU u (.ok ds S)=Out.of (u ds) S:=(rfl)
@[simp] def ztZ{u:List D->Option D}{x:Str}:zoU u (.exc x S)=.exc x S:=(rfl)
@[simp] def zxm{r:List D->Sto->Out D}{fs:List Fe}:eFn r fs ρ S=kFn r (zae fs ρ S):=by
 unfold eFn;cases zae fs ρ S<;>rfl
@[simp] def zx9{r:List D->Sto->Out D}{ds:List D}:kFn r (.ok ds S)=r ds S:=(rfl)
@[simp] def zx8{r:List D->Sto->Out D}{x:Str}:kFn r (.exc x S)=.exc x S:=(rfl)
@[simp] def zso{u v:D->D->Option D}:zcb u v f g h ρ S=zne u v g h ρ (f ρ S):=by
 show ((f ρ S).bind fun a S1=>(g ρ S1).bind fun b S2=>match (u a b).bind isB with
  | some true=>(h ρ S2).bind fun c S3=>Out.of (v b c) S3
  | some false=>.ok (.bl false) S2
  | none=>.bad)=_
 cases f ρ S with
 | ok a S1 =>
  show ((g ρ S1).bind fun b S2=>match (u a b).bind isB with
   | some true=>(h ρ S2).bind fun c S3=>Out.of (v b c) S3
   | some false=>.ok (.bl false) S2
   | none=>.bad)=zfp u v h ρ a (g ρ S1)
  cases g ρ S1 with
  | ok b S2 =>
   show (match (u a b).bind isB with
    | some true=>(h ρ S2).bind fun c S3=>Out.of (v b c) S3
    | some false=>.ok (.bl false) S2
    | none=>.bad)=zei v h ρ b S2 (u a b)
   cases hu:u a b with
   | none=>rfl
   | some d =>
    show (match isB d with
     | some true=>(h ρ S2).bind fun c S3=>Out.of (v b c) S3
     | some false=>.ok (.bl false) S2
     | none=>.bad)=(match isB d with | some true=>zej v b (h ρ S2) | some false=>.ok (.bl false) S2 | none=>.bad)
    cases hb:isB d with
    | none=>rfl
    | some x=>cases x with
     | true=>show ((h ρ S2).bind fun c S3=>Out.of (v b c) S3)=zej v b (h ρ S2);cases h ρ S2<;>rfl
     | false=>rfl
  | exc c S=>rfl
  | bad=>rfl
 | exc c S=>rfl
 | bad=>rfl
@[simp] def zyh{u v:D->D->Option D}{d:D}:zne u v g h ρ (.ok d S)=zfp u v h ρ d (g ρ S):=(rfl)
@[simp] def zyg{u v:D->D->Option D}{d e:D}:zfp u v h ρ d (.ok e S)=zei v h ρ e S (u d e):=(rfl)
@[simp] def zyf{v:D->D->Option D}{e:D}:zei v h ρ e S (some (.bl true))=zej v e (h ρ S):=(rfl)
@[simp] def zye{v:D->D->Option D}{e:D}:zei v h ρ e S (some (.bl false))=.ok (.bl false) S:=(rfl)
@[simp] def zyd{v:D->D->Option D}{d e:D}:zej v e (.ok d S)=Out.of (v e d) S:=(rfl)
@[simp] def zsn:zcd none ρ S=.ok none S:=(rfl)
@[simp] def zsm:zcd (some f) ρ S=zwB (f ρ S):=by
 show ((f ρ S).bind fun d S1=>match d with | .int i=>.ok (some i) S1 | _=>.bad)=_
 cases f ρ S with
 | ok d S'=>cases d<;>rfl
 | exc c S'=>rfl
 | bad=>rfl
@[simp] def zx3{i:Int}:zwB (.ok (.int i) S)=.ok (some i) S:=(rfl)
@[simp] def zxh{l u:Option Fe}:eSl f l u ρ S=kSl l u ρ (f ρ S):=by
 unfold eSl
 cases f ρ S with
 | ok d S1 =>
  show ((zcd l ρ S1).bind fun l S2=>(zcd u ρ S2).bind fun u S3=>Out.of (slD d l u) S3)=zsv d u ρ (zcd l ρ S1)
  cases zcd l ρ S1 with
  | ok l S2=>show ((zcd u ρ S2).bind fun u S3=>Out.of (slD d l u) S3)=zsu d l (zcd u ρ S2);cases zcd u ρ S2<;>rfl
  | exc c S=>rfl
  | bad=>rfl
 | exc c S=>rfl
 | bad=>rfl
@[simp] def zyK{l u:Option Fe}{d:D}:kSl l u ρ (.ok d S)=zsv d u ρ (zcd l ρ S):=(rfl)
@[simp] def zxR{u:Option Fe}{d:D}{l:Option Int}:zsv d u ρ (.ok l S)=zsu d l (zcd u ρ S):=(rfl)
@[simp] def zxQ{d:D}{l u:Option Int}:zsu d l (.ok u S)=Out.of (slD d l u) S:=(rfl)
@[simp] def zsV:zaz f ρ S=zj9 (f ρ S):=by
 show ((f ρ S).bind fun d S1=>match d with | .lst l=>.ok l S1 | .tup l=>.ok l S1 | _=>.bad)=_
 cases f ρ S with
 | ok d S'=>cases d<;>rfl
 | exc c S'=>rfl
 | bad=>rfl
@[simp] def zx2{l:List D}:zj9 (.ok (.lst l) S)=.ok l S:=(rfl)
@[simp] def zx1{l:List D}:zj9 (.ok (.tup l) S)=.ok l S:=(rfl)
@[simp] def zve:zkF f ρ S=zoR (zae [f] ρ S):=by
 show ((zae [f] ρ S).bind fun ds S1=>match ds with | [.lst l]=>.ok (zdk l) S1 | [.tup l]=>.ok (zdk l) S1 | _=>.bad)=_
 cases zae [f] ρ S with
 | ok ds S' =>
  cases ds with
  | nil=>rfl
  | cons d ds=>cases ds with
   | nil=>cases d<;>rfl
   | cons e ds=>cases d<;>rfl
 | exc c S'=>rfl
 | bad=>rfl
@[simp] def zyc{l:List D}:zoR (.ok [.lst l] S)=.ok (zdk l) S:=(rfl)
@[simp] def zyb{l:List D}:zoR (.ok [.tup l] S)=.ok (zdk l) S:=(rfl)
@[simp] def zwS:zk8 f g ρ S=zrA (zae [f,g] ρ S):=by
 unfold zk8;cases zae [f,g] ρ S<;>rfl
@[simp] def zvN{l k:List D}:zrA (.ok [.tup l,.tup k] S)=.ok (zdU l k) S:=(rfl)
@[simp] def zvM{l k:List D}:zrA (.ok [.lst l,.tup k] S)=.ok (zdU l k) S:=(rfl)
@[simp] def zvL{l k:List D}:zrA (.ok [.tup l,.lst k] S)=.ok (zdU l k) S:=(rfl)
@[simp] def zvK{l k:List D}:zrA (.ok [.lst l,.lst k] S)=.ok (zdU l k) S:=(rfl)
@[simp] def zuV:zdQ f ρ S=zrD (zae [f] ρ S):=by
 unfold zdQ;cases zae [f] ρ S<;>rfl
@[simp] def zv1{j:Int}:zrD (.ok [.int j] S)=if -1000000<=j/\j<=1000000 then .ok (zaB 0 j) S else .bad:=(rfl)
@[simp] def zuU:zkC f g ρ S=zrC (zae [f,g] ρ S):=by
 unfold zkC;cases zae [f,g] ρ S<;>rfl
@[simp] def zv0{i j:Int}:zrC (.ok [.int i,.int j] S)=if (-1000000<=i/\i<=1000000)/\-1000000<=j/\j<=1000000 then .ok (zaB i j) S else .bad:=(rfl)
@[simp] def zvp{n:Nat}{t:Tg}{it:Fi}{caps:List Nat}:zbj n t it c f caps ρ S=zoT t c f (zbe n caps ρ) (it ρ S):=by
 unfold zbj
 cases it ρ S with
 | ok ds S' =>
  simp only [Out.bind,zoT]
  cases zaH t c f (zbe n caps ρ) ds S'<;>rfl
 | exc c S'=>rfl
 | bad=>rfl
@[simp] def zwi{t:Tg}{ρ0:Env}{ds:List D}:zoT t c f ρ0 (.ok ds S)=zkb (zaH t c f ρ0 ds S):=(rfl)
@[simp] def ztY{ys:List D}:zkb (.ok ys S)=if zaX ys.length then .ok (.lst ys) S else .bad:=(rfl)
@[simp] def zwT:zbT ρ S=.ok (.bl true) S:=(rfl)
@[simp] def zpJ{n:Nat}{caps:List Nat}:zbe n caps ρ=List.replicate n none++caps.map (zr9 ρ):=(rfl)
@[simp] def zvq{i:Nat}:zr9 ρ i=zwF ρ[i]?:=(rfl)
@[simp] def zyi{d:D}:zwF (some (some (false,d)))=some (false,d):=(rfl)
def zaw{n:Nat}{own:Bool}{fs:Fs}{ds:List D}:zbW n own fs ds S=zsw own (fs (ds.map (fun d=>some (false,d))++List.replicate (n-ds.length) none) S):=(rfl)
@[simp] def zvZ{own:Bool}{d:D}:zsw own (.rt d S)=.ok d S:=(rfl)
@[simp] def zvY:zsw false (.nx ρ S)=.ok .non S:=(rfl)
@[simp] def zvX{own:Bool}{x:Str}:zsw own (.ex x ρ S)=.exc x S:=(rfl)
@[simp] def zxd{b:Bool}:isB (.bl b)=some b:=(rfl)
@[simp] def zw2{b:Bool}:zfl (.bl b)=some (.bl (!b)):=(rfl)
@[simp] def zw3{i:Int}:zpA (.int i)=some (.int (-i)):=(rfl)
@[simp] def zvt{i j:Int}:zbU (.int i) (.int j)=some (.int (i+j)):=(rfl)
@[simp] def zvr{x y:List D}:zbU (.tup x) (.tup y)=if zaX (x.length+y.length) then some (.tup (x++y)) else none:=(rfl)
@[simp] def zvs{x y:List D}:zbU (.lst x) (.lst y)=if zaX (x.length+y.length) then some (.lst (x++y)) else none:=(rfl)
@[simp] def zwU{i j:Int}:zpy (.int i) (.int j)=some (.int (i-j)):=(rfl)
@[simp] def zw5{i j:Int}:zgW (.int i) (.int j)=if zby i||zby j then some (.int (i*j)) else none:=(rfl)
@[simp] def zw6{i j:Int}:zlX (.int i) (.int j)=if 0<j then some (.int (i % j)) else none:=(rfl)
@[simp] def zxn{i j:Int}:zrY (.int i) (.int j)=if 0<j/\j<1073741824 then some (.int (i / j)) else none:=(rfl)
@[simp] def zyE{i j:Int}:ltD (.int i) (.int j)=some (.bl (decide (i<j))):=(rfl)
@[simp] def zyF{i j:Int}:leD (.int i) (.int j)=some (.bl (decide (i<=j))):=(rfl)
@[simp] def zyG{i j:Int}:gtD (.int i) (.int j)=some (.bl (decide (j<i))):=(rfl)
@[simp] def zyH{i j:Int}:geD (.int i) (.int j)=some (.bl (decide (j<=i))):=(rfl)
@[simp] def zw9{l:List D}{i:Int}:ixD (.lst l) (.int i)=atI l i:=(rfl)
@[simp] def zw7{l:List D}{i:Int}:ixD (.tup l) (.int i)=atI l i:=(rfl)
@[simp] def zw8{l:List Int}{i:Int}:ixD (.scr l) (.int i)=(atI l i).map D.int:=(rfl)
@[simp] def zvb{l:List D}:zc2 [.lst l]=some (.int l.length):=(rfl)
@[simp] def zu9{l:List D}:zc2 [.tup l]=some (.int l.length):=(rfl)
@[simp] def zva{l:List Int}:zc2 [.scr l]=some (.int l.length):=(rfl)
@[simp] def zuM{l:List D}:zbo [.lst l]=some (.tup l):=(rfl)
@[simp] def zuL{l:List D}:zbo [.tup l]=some (.tup l):=(rfl)
@[simp] def zxb{d:D}:zmg d .non=some (.bl (zco d)):=(rfl)
@[simp] def zu0{d:D}:ziv d .non=some (.bl (!zco d)):=(rfl)
@[simp] def zu6:zco .non=true:=(rfl)
@[simp] def zu5{i:Int}:zco (.int i)=false:=(rfl)
@[simp] def zu4{l:List D}:zco (.tup l)=false:=(rfl)
@[simp] def zwV{l:List D}{x y:Option Int}:slD (.tup l) x y=some (.tup (zdR l x y)):=(rfl)
@[simp] def zwW{l:List D}{x y:Option Int}:slD (.lst l) x y=some (.lst (zdR l x y)):=(rfl)
@[simp] def zu1{x y:Bool}:zlS (.bl x) (.bl y)=some (.bl (!decide (x=y))):=(rfl)
@[simp] def zu8{i j:Int}:ztP [.int i,.int j]=some (.int (if j<i then j else i)):=(rfl)
@[simp] def zsO{n:Nat}:zaX n=decide (n<=100000):=(rfl)
def zaW{α:Type}(xs:List α)(j:Nat):atI xs (j:Int)=xs[j]?:=by
 unfold atI ixN
 by_cases h:j<xs.length
 ·simp [h]
 ·simp [h]
@[simp] def zsK{α:Type}(xs:List α):atI xs 0=xs[0]?:=zaW xs 0
@[simp] def zux{α:Type}(xs:List α):atI xs 1=xs[1]?:=zaW xs 1
@[simp] def zuw{α:Type}(xs:List α):atI xs 2=xs[2]?:=zaW xs 2
@[simp] def zse{α:Type}(xs:List α):atI xs 3=xs[3]?:=zaW xs 3
def zfE{α:Type}{xs:List α}{i:Int}(h:0<=i):atI xs i=xs[i.toNat]?:=by
 obtain ⟨n,rfl⟩:=ybe h;exact zaW xs n
end
def zcz{tg:Tg}{body:Fs}{ds:List D}{S:Sto}(Iv:Nat->Env->Prop)(step:∀k d ρ,ds[k]?=some d->Iv k ρ->∃ρ1 ρ2,tg.put ρ d=some ρ1/\body ρ1 S=.nx ρ2 S/\Iv (k+1) ρ2){ρ:Env}(h0:Iv 0 ρ):∃ρ',zd1 tg body ds ρ S=.nx ρ' S/\Iv ds.length ρ':=by
 have go:∀(n:Nat) (es:List D) (k:Nat) (ρ:Env),es.length=n->ds.drop k=es->k+n=ds.length->Iv k ρ->∃ρ',zd1 tg body es ρ S=.nx ρ' S/\Iv ds.length ρ':=by
  intro n
  induction n with
  | zero =>
   intro es k ρ hl he hk hi;obtain rfl:es=[]:=ya8 hl;exact ⟨ρ,rfl,by rw [show ds.length=k by omega];exact hi⟩
  | succ n ih =>
   intro es k ρ hl he hk hi
   cases es with
   | nil=>cases hl
   | cons d es =>
    have hd:ds[k]?=some d:=by
     have:=congrArg (fun l=>l[0]?) he;rw [ybo] at this;simpa using this
    obtain ⟨ρ1,ρ2,e1,e2,hi2⟩:=step k d ρ hd hi;obtain ⟨ρ',e3,e4⟩:=ih es (k+1) ρ2 (by simpa using hl) (by rw [<-List.drop_drop,he];rfl) (by omega) hi2;refine ⟨ρ',?_,e4⟩;unfold zd1;rw [e1];dsimp only;rw [e2];exact e3
 exact go ds.length ds 0 ρ rfl (by simp) (by omega) h0
theorem zet{tg:Tg}{c elt:Fe}{ρ0:Env}{S:Sto}{g:D->D}{p:D->Bool}:∀{ds:List D},(∀d∈ds,∃ρ1,tg.put ρ0 d=some ρ1/\c ρ1 S=.ok (.bl (p d)) S/\(p d=true->elt ρ1 S=.ok (g d) S))->zaH tg c elt ρ0 ds S=.ok ((ds.filter p).map g) S
 | [],_=>rfl
 | d::ds,h=>by
  obtain ⟨ρ1,e1,e2,e3⟩:=h d yaE;have ih:=zet (ds:=ds) fun x hx=>h x (yav _ hx)
  unfold zaH;rw [e1];dsimp only;rw [e2]
  cases hp:p d with
  | true=>simp [e3 hp,ih,hp]
  | false=>simp [ih,hp]
def zbB{tg:Tg}{elt:Fe}{ρ0:Env}{S:Sto}{g:D->D}{ds:List D}(h:∀d∈ds,∃ρ1,tg.put ρ0 d=some ρ1/\elt ρ1 S=.ok (g d) S):zaH tg zbT elt ρ0 ds S=.ok (ds.map g) S:=by
 have:=zet (c:=zbT) (p:=fun _=>true) (tg:=tg) (elt:=elt) (ρ0:=ρ0) (S:=S) (g:=g) (ds:=ds) fun d hd=>by
  obtain ⟨ρ1,e1,e2⟩:=h d hd;exact ⟨ρ1,e1,rfl,fun _=>e2⟩
 rw [this,List.filter_eq_self.mpr (fun _ _=>rfl)]
mutual
noncomputable def D.pl:D->Bool
 | .non=>true
 | .int _=>true
 | .str _=>true
 | .tup l=>D.pls l
 | .lst l=>D.pls l
 | _=>false
noncomputable def D.pls:List D->Bool
 | []=>true
 | d::l=>d.pl&&D.pls l
end
theorem D.pls_iff:∀{l:List D},D.pls l=true↔∀d∈l,d.pl=true
 | []=>by simp [D.pls]
 | d::l=>by simp [D.pls,D.pls_iff (l:=l)]
mutual
theorem zhX:∀(d e:D),d.pl=true->e.pl=true->(d.py.eqv e.py=true↔d=e)
 | .non,e,_,h=>by cases e<;>simp [D.py,PyData.eqv,D.pl] at h ⊢
 | .int i,e,_,h=>by cases e<;>simp [D.py,PyData.eqv,D.pl] at h ⊢
 | .str x,e,_,h=>by cases e<;>simp [D.py,PyData.eqv,D.pl] at h ⊢
 | .tup l,e,hd,h=>by
  cases e with
  | tup k =>
   simp only [D.py,PyData.eqv,D.pl] at hd h ⊢;rw [zg8 l k hd h];simp
  | _=>simp [D.py,PyData.eqv,D.pl] at h ⊢
 | .lst l,e,hd,h=>by
  cases e with
  | lst k =>
   simp only [D.py,PyData.eqv,D.pl] at hd h ⊢;rw [zg8 l k hd h];simp
  | _=>simp [D.py,PyData.eqv,D.pl] at h ⊢
 | .bl _,_,hd,_=>by simp [D.pl] at hd
 | .dic _,_,hd,_=>by simp [D.pl] at hd
 | .ref _,_,hd,_=>by simp [D.pl] at hd
 | .exc _,_,hd,_=>by simp [D.pl] at hd
 | .scr _,_,hd,_=>by simp [D.pl] at hd
theorem zg8:∀(l k:List D),D.pls l=true->D.pls k=true->(PyData.eqvAll (D.pys l) (D.pys k)=true↔l=k)
 | [],[],_,_=>by simp [D.pys,PyData.eqvAll]
 | [],_::_,_,_=>by simp [D.pys,PyData.eqvAll]
 | _::_,[],_,_=>by simp [D.pys,PyData.eqvAll]
 | d::l,e::k,h1,h2=>by
  simp only [D.pls,yab] at h1 h2;simp only [D.pys,PyData.eqvAll,yab,List.cons.injEq];rw [zhX d e h1.1 h2.1,zg8 l k h1.2 h2.2]
end
end S2
namespace S2
open PySem
open L2 hiding D
@[simp] def zo3{n:Nat}{i:Int}:D.fit n (.int i)=true:=by cases n<;>rfl
@[simp] def zul{n:Nat}:D.fit n .non=true:=by cases n<;>rfl
@[simp] def zuk{n:Nat}{l:List D}:D.fit (n+1) (.tup l)=D.fits n l:=(rfl)
@[simp] def zum{n:Nat}{l:List D}:D.fit (n+1) (.lst l)=D.fits n l:=(rfl)
@[simp] def zsD{n:Nat}:D.fits n []=true:=by cases n<;>rfl
@[simp] def zrU{n:Nat}{d:D}{l:List D}:D.fits n (d::l)=(d.fit n&&D.fits n l):=by cases n<;>rfl
@[simp] def zxf{i j:Int}:eqD (.int i) (.int j)=some (.bl (decide (i=j))):=by
 unfold eqD zeA;simp [D.py,PyData.eqv]
 cases h:(i == j)<;>simp_all
@[simp] def zw4{i j:Int}:neD (.int i) (.int j)=some (.bl (!decide (i=j))):=by
 unfold neD zeA;simp [D.py,PyData.eqv]
 cases h:(i == j)<;>simp_all
def zeQ{l:List Int}:eqD (.scr l) (.lst [])=some (.bl (decide (l=[]))):=by
 cases l with
 | nil=>rfl
 | cons a l=>simp [eqD,D.fit,D.fits,zeA,D.py,D.pys,PyData.eqv,PyData.eqvAll]
noncomputable def ziJ(l:List Int)(k:Int):Int:=if k<l.length then l.getD k.toNat 0 else if l=[] then 0 else l.getD (k % l.length).toNat 0*31+k
noncomputable def zbc(l:List Int)(k:Int)(many:Int):Int :=
 let d:=(ziJ l k+6151*(k+1))*40692 % 2147483399
 (d*d+d / 31) % 2147483629 % many
def za9(l:List Int)(k:Int){many:Int}(h:0<many):0<=zbc l k many/\zbc l k many<many:=⟨Int.emod_nonneg _ (by omega),ycT _ h⟩
@[simp] def zwK:zby 31=true:=by decide
@[simp] def zsE:zby 6151=true:=by decide
@[simp] def zrW:zby 40692=true:=by decide
def zrV{i:Int}(h0:-(2 ^ 64)<i)(h:i<2 ^ 64):zby i=true:=by unfold zby;simp;omega
def zlp{l:List Int}{k:Int}{S:Sto}(hk:0<=k):za8 [.scr l,.int k] S=.ok (.int (ziJ l k)) S:=by
 unfold ziJ
 by_cases h:k<l.length
 ·have hx:l[k.toNat]?=some l[k.toNat]:=yac (by omega);rw [if_pos h,yat,hx];simp [za8,zaw,zbz,h,zfE hk,hx]
 ·by_cases h0:l=[]
  ·subst h0;simp [za8,zaw,zbz,zeQ,show ¬ k<0 by omega]
  ·have hl:0<l.length:=by cases l with | nil=>exact absurd rfl h0 | cons _ _=>simp
   have hm0:0<=k % (l.length:Int):=Int.emod_nonneg _ (by omega);have hm1:k % (l.length:Int)<l.length:=ycT _ (by omega);have hx:l[(k % (l.length:Int)).toNat]?=some (l[(k % (l.length:Int)).toNat]'(by omega)):=yac (by omega);rw [if_neg h,if_neg h0,yat,hx];simp [za8,zaw,zbz,h,h0,zeQ,zfE hm0,hx,hl]
def zaU{l:List Int}{k many:Int}{S:Sto}(hk:0<=k)(hm:0<many):zak [.scr l,.int k,.int many] S=.ok (.int (zbc l k many)) S:=by
 unfold zbc;have h0:0<=(ziJ l k+6151*(k+1))*40692 % 2147483399:=Int.emod_nonneg _ (by omega);have h1:(ziJ l k+6151*(k+1))*40692 % 2147483399<2147483399:=ycT _ (by omega);have hf:zby ((ziJ l k+6151*(k+1))*40692 % 2147483399)=true:=zrV (by omega) (by omega);simp [zak,zaw,zcV,zlp hk,hf,hm]
noncomputable def zaD(t:List Int):D:=.tup (t.map D.int)
def zmk{t u:List Int}:t.map D.int=u.map D.int↔t=u:=by
 constructor
 ·intro h
  induction t generalizing u with
  | nil=>cases u with | nil=>rfl | cons _ _=>cases h
  | cons a t ih=>cases u with
   | nil=>cases h
   | cons b u =>
    simp only [yau,List.cons.injEq,D.int.injEq] at h;rw [h.1,ih h.2]
 ·rintro rfl;rfl
def zlf{t u:List Int}:zaD t=zaD u↔t=u:=by unfold zaD;rw [D.tup.injEq];exact zmk
def zlx{t:List Int}:D.pls (t.map D.int)=true:=by rw [D.pls_iff];intro d hd;obtain ⟨i,_,rfl⟩:=yaq.mp hd;rfl
def zjF{t:List Int}:(zaD t).pl=true:=zlx
def zkw{n:Nat}{t:List Int}:D.fits n (t.map D.int)=true:=by rw [D.fits_iff];intro d hd;obtain ⟨i,_,rfl⟩:=yaq.mp hd;exact zo3
def zhW{n:Nat}{t:List Int}:(zaD t).fit (n+1)=true:=zkw
theorem znb{d:D}:∀{l:List D},d.pl=true->D.pls l=true->(zhQ d l=true↔d∈l)
 | [],_,_=>by simp [zhQ]
 | e::l,h,hl=>by
  simp only [D.pls,yab] at hl;have ih:=znb (d:=d) (l:=l) h hl.2;have e1:=zhX e d hl.1 h;unfold zhQ;simp only [List.any_cons,ycf,yap];unfold zhQ at ih;rw [ih];unfold zeA;rw [e1]
  constructor<;>(intro z;rcases z with z | z<;>simp [z])
def zga{t:List Int}{ts:Z2}:zoD (zaD t) (.lst (ts.map zaD))=some (.bl (!decide (t∈ts))):=by
 have f1:(zaD t).fit 8=true:=zhW
 have f2:D.fits 8 (ts.map zaD)=true:=by rw [D.fits_iff];intro d hd;obtain ⟨i,_,rfl⟩:=yaq.mp hd;exact zhW
 have p2:D.pls (ts.map zaD)=true:=by rw [D.pls_iff];intro d hd;obtain ⟨i,_,rfl⟩:=yaq.mp hd;exact zjF
 have m:=znb (d:=zaD t) zjF p2
 have:(zaD t∈ts.map zaD)↔t∈ts:=by
  rw [yaq];constructor
  ·rintro ⟨u,hu,e⟩;rw [<-zlf.mp e];exact hu
  ·intro h;exact ⟨t,h,rfl⟩
 rw [this] at m;unfold zoD;simp only [zji,f1,f2,Bool.and_self,ybP,Option.some.injEq,D.bl.injEq];congr 1
 by_cases h:t∈ts
 ·rw [m.mpr h];simp [h]
 ·cases hm:zhQ (zaD t) (ts.map zaD)
  ·simp [h]
  ·exact absurd (m.mp hm) h
structure Tiles(most:Int)(ts:Z2):Prop where
 ne:1<=ts.length
 le:(ts.length:Int)<=most
 four:∀t∈ts,t.length=4
 col:∀t∈ts,∀c∈t,0<=c/\c<3
 nd:ts.Nodup
def zci{hi:Int}{k:Nat}{d:D}(h:(zaB 0 hi)[k]?=some d):d=.int k/\(k:Int)<hi:=by
 unfold zaB at h;rw [yas] at h
 cases hr:(List.range (hi-0).toNat)[k]? with
 | none=>rw [hr] at h;cases h
 | some j =>
  rw [hr] at h;obtain ⟨h1,h2⟩:=yan.mp hr;simp at h1 h2;subst h2;simp at h;exact ⟨h.symm,by omega⟩
@[simp] def zjv{hi:Int}:(zaB 0 hi).length=hi.toNat:=by unfold zaB;simp
end S2
namespace S2
open PySem
open L2 hiding D
def zqI:zaB 0 4=[.int 0,.int 1,.int 2,.int 3]:=by rfl
@[simp] def zyw:zby 4=true:=by decide
@[simp] def zyv:zby 7=true:=by decide
def znz{l:List Int}{at' most col k:Int}{S:Sto}{ts:Z2}{y:Option (Bool×D)}(ha:0<=at')(hk:0<=k)(hc:0<col)(hc3:col<=3)(hn:ts.length<=1000) :
  ∃t y',t.length=4/\(∀c∈t,0<=c/\c<3)/\zaS [some (false,.scr l),some (false,.int at'),some (false,.int most),some (false,.int col),some (true,.lst (ts.map zaD)),some (false,.int k),y] S
   = .nx [some (false,.scr l),some (false,.int at'),some (false,.int most),some (false,.int col),some (true,.lst ((if t∈ts then ts else ts++[t]).map zaD)),some (false,.int k),y'] S:=by
 have hcomp:∀ρ0:Env,ρ0=[none,some (false,.int at'),some (false,.int col),some (false,.int k),some (false,.scr l)]->zaH (.one 0) zbT (eFn zak [(zac 4),(zai zbU (zai zbU (zai zbU (zaj 1) (zai zgW (zal (.int 4)) (zaj 3))) (zal (.int 2))) (zaj 0)),(zac 2)]) ρ0 (zaB 0 4) S
   = .ok ([zbc l (at'+4*k+2+0) col,zbc l (at'+4*k+2+1) col,zbc l (at'+4*k+2+2) col,zbc l (at'+4*k+2+3) col].map D.int) S:=by
  rintro _ rfl;rw [zqI,zbB (g:=fun d=>match d with | .int i=>.int (zbc l (at'+4*k+2+i) col) | _=>.non)]
  ·rfl
  ·intro d hd;simp only [yap,yaJ,ybF] at hd
   rcases hd with rfl | rfl | rfl | rfl<;>exact ⟨_,rfl,by simp;rw [zaU (by omega) hc]⟩
 have b0:=za9 l (at'+4*k+2+0) hc;have b1:=za9 l (at'+4*k+2+1) hc;have b2:=za9 l (at'+4*k+2+2) hc;have b3:=za9 l (at'+4*k+2+3) hc;generalize zbc l (at'+4*k+2+0) col=p0 at *;generalize zbc l (at'+4*k+2+1) col=p1 at *;generalize zbc l (at'+4*k+2+2) col=p2 at *;generalize zbc l (at'+4*k+2+3) col=p3 at *
 have fin:∀t:List Int,(zan (sFz [] (sIf (zai zoD (zaj 6) (zaj 4)) (zan (sFz [6] (zln 4 (zac 6))) sNx) sNx)) sNx) [some (false,.scr l),some (false,.int at'),some (false,.int most),some (false,.int col),some (true,.lst (ts.map zaD)),some (false,.int k),some (false,zaD t)] S
   = .nx [some (false,.scr l),some (false,.int at'),some (false,.int most),some (false,.int col),some (true,.lst ((if t∈ts then ts else ts++[t]).map zaD)),some (false,.int k),some (false,zaD t)] S:=by
  intro t
  by_cases h:t∈ts
  ·simp [zga,h]
  ·simp [zga,h,show ts.length<=100000 by omega]
 by_cases h3:zbc l (at'+60+k) 3=0
 ·refine ⟨[p0,p1,p0,p1],some (false,zaD [p0,p1,p0,p1]),rfl,by simp;omega,?_⟩;rw [<-fin];simp [zaS,hcomp,zaU (show 0<=at'+60+k by omega) (show (0:Int)<3 by omega),h3];rfl
 ·refine ⟨[p0,p1,p2,p3],some (false,zaD [p0,p1,p2,p3]),rfl,by simp;omega,?_⟩;rw [<-fin];simp [zaS,hcomp,zaU (show 0<=at'+60+k by omega) (show (0:Int)<3 by omega),h3];rfl
def zjr{l:List Int}{at' most:Int}{S:Sto}(ha:0<=at')(hm:0<most)(hm2:most<=100):∃ts,Tiles most ts/\zbD [.scr l,.int at',.int most] S=.ok (.tup (ts.map zaD)) S:=by
 have b:=za9 l at' (many:=2) (by omega);have n:=za9 l (at'+1) hm;have p1:=zaU (l:=l) (S:=S) ha (show (0:Int)<2 by omega);have p2:=zaU (l:=l) (S:=S) (show 0<=at'+1 by omega) hm;generalize zbc l at' 2=c at *;generalize zbc l (at'+1) most=m at *
 obtain ⟨ρ',e,ts,x,y,rfl,h1,h2,h3,h4,h5⟩:=zcz (tg:=.one 5) (body:=zaS) (ds:=zaB 0 (1+m)) (S:=S) (fun k ρ=>∃ts x y,ρ=[some (false,.scr l),some (false,.int at'),some (false,.int most),some (false,.int (2+c)),some (true,.lst (ts.map zaD)),x,y]/\ts.length<=k/\(0<k->1<=ts.length)/\(∀t∈ts,t.length=4)/\(∀t∈ts,∀c∈t,0<=c/\c<3)/\ts.Nodup) (by
   rintro k d ρ hd ⟨ts,x,y,rfl,h1,h2,h3,h4,h5⟩;obtain ⟨rfl,hk⟩:=zci hd;obtain ⟨t,y',a1,a2,a3⟩:=znz (l:=l) (at':=at') (most:=most) (col:=2+c) (k:=k) (S:=S) (ts:=ts) (y:=y) ha (by omega) (by omega) (by omega) (by omega);refine ⟨_,_,rfl,a3,_,_,_,rfl,?_,?_,?_,?_,?_⟩
   ·split<;>(try simp)<;>omega
   ·intro _;split
    ·rename_i h;exact List.length_pos_of_mem h
    ·simp
   ·intro u hu;split at hu
    ·exact h3 u hu
    ·rw [ybj,yaU] at hu
     rcases hu with hu | rfl
     ·exact h3 u hu
     ·exact a1
   ·intro u hu;split at hu
    ·exact h4 u hu
    ·rw [ybj,yaU] at hu
     rcases hu with hu | rfl
     ·exact h4 u hu
     ·exact a2
   ·split
    ·exact h5
    ·rename_i h;rw [yc0];refine ⟨h5,by simp,?_⟩
     intro a ha b hb;rw [yaU] at hb;subst hb;rintro rfl;exact h ha)
  (ρ:=[some (false,.scr l),some (false,.int at'),some (false,.int most),some (false,.int (2+c)),some (true,.lst []),none,none]) ⟨[],none,none,rfl,by simp,by simp,by simp,by simp,by simp⟩
 rw [zjv] at h1 h2;refine ⟨ts,⟨h2 (by omega),by omega,h3,h4,h5⟩,?_⟩;simp [zbD,zaw,zcq,p1,p2,show -1000000<=1+m/\1+m<=1000000 by omega,e]
end S2
namespace S2
open PySem
open L2 hiding D
noncomputable def oD:Option Int->D | none=>.non | some i=>.int i
noncomputable def zcH(c:Nat)(g:Nat->Option Int):List D:=(List.range c).map fun j=>oD (g j)
noncomputable def zbI(c:Nat)(g:Nat->Option Int):D:=.tup (zcH c g)
noncomputable def zce(r c:Nat)(g:Z1):List D:=(List.range r).map fun i=>zbI c (g i)
noncomputable def flr(r c:Nat)(g:Z1):D:=.tup (zce r c g)
@[simp] def zc8{c:Nat}{g:Nat->Option Int}:(zcH c g).length=c:=by simp [zcH]
@[simp] def zdg{r c:Nat}{g:Z1}:(zce r c g).length=r:=by simp [zce]
def zc9{c j:Nat}{g:Nat->Option Int}(h:j<c):(zcH c g)[j]?=some (oD (g j)):=by simp [zcH,h]
def zbF{r c i:Nat}{g:Z1}(h:i<r):(zce r c g)[i]?=some (zbI c (g i)):=by simp [zce,h]
@[simp] def ztu{c j:Nat}{g:Nat->Option Int}(h:j<(zcH c g).length):(zcH c g)[j]=oD (g j):=by simp [zcH]
@[simp] def zui{r c i:Nat}{g:Z1}(h:i<(zce r c g).length):(zce r c g)[i]=zbI c (g i):=by simp [zce]
def zju{k:Nat}{g:Nat->Option Int}:zcH (k+1) g=zcH k g++[oD (g k)]:=by simp [zcH,ybT]
def zkv{k c:Nat}{g:Z1}:zce (k+1) c g=zce k c g++[zbI c (g k)]:=by simp [zce,ybT]
noncomputable def zgV(l:List Int)(at' n m:Int)(i j:Nat):Option Int:=if zbc l (at'+7*i+j) (n*m)<n then some (zbc l (at'+7*i+j) (n*m)) else none
def zro{l:List Int}{at' n m:Int}{i j:Nat}(h:0<n*m):∀x,zgV l at' n m i j=some x->0<=x/\x<n:=by
 intro x e;unfold zgV at e;have:=za9 l (at'+7*i+j) h;split at e
 ·cases e;omega
 ·cases e
def zmr{l:List Int}{at' m:Int}{ts:List D}{r c:Nat}{i:Nat}{S:Sto}{A B Mm:Option (Bool×D)}{y:Option (Bool×D)}{z:Option (Bool×D)}(ha:0<=at')(hp:0<(ts.length:Int)*m)(hm:zby m=true)(hc:c<=1000) :
  ∃y' z',zd1 (.one 9) zaT (zaB 0 c) [some (false,.scr l),some (false,.int at'),some (false,.tup ts),A,B,some (false,.int m),Mm,some (false,.int i),some (true,.lst []),y,z] S
   = .nx [some (false,.scr l),some (false,.int at'),some (false,.tup ts),A,B,some (false,.int m),Mm,some (false,.int i),some (true,.lst (zcH c (zgV l at' ts.length m i))),y',z'] S:=by
 obtain ⟨ρ',e,y',z',rfl⟩:=zcz (tg:=.one 9) (body:=zaT) (ds:=zaB 0 c) (S:=S) (fun k ρ=>∃y z,ρ=[some (false,.scr l),some (false,.int at'),some (false,.tup ts),A,B,some (false,.int m),Mm,some (false,.int i),some (true,.lst (zcH k (zgV l at' ts.length m i))),y,z]) (by
  rintro k d ρ hd ⟨y,z,rfl⟩;obtain ⟨rfl,hk⟩:=zci hd;have p:=zaU (l:=l) (S:=S) (show 0<=at'+7*(i:Int)+(k:Int) by omega) hp;have pn:=za9 l (at'+7*(i:Int)+(k:Int)) hp;refine ⟨_,_,rfl,?_,some (false,.int k),some (false,.int (zbc l (at'+7*i+k) (ts.length*m))),rfl⟩
  ·rw [zju]
   by_cases h:zbc l (at'+7*(i:Int)+(k:Int)) (ts.length*m)<ts.length
   ·simp [zaT,p,hm,h,zgV,oD,show k<=100000 by omega]
   ·simp [zaT,p,hm,h,zgV,oD,show k<=100000 by omega])
  (ρ:=[some (false,.scr l),some (false,.int at'),some (false,.tup ts),A,B,some (false,.int m),Mm,some (false,.int i),some (true,.lst []),y,z]) ⟨y,z,rfl⟩
 exact ⟨y',z',by simpa using e⟩
def zjt{l:List Int}{at' m:Int}{ts:List D}{r c:Int}{S:Sto}(ha:0<=at')(hp:0<(ts.length:Int)*m)(hm:zby m=true)(hr:0<=r)(hr2:r<=1000)(hc:0<=c)(hc2:c<=1000) :
  za0 [.scr l,.int at',.tup ts,.int r,.int c,.int m] S=.ok (flr r.toNat c.toNat (zgV l at' ts.length m)) S:=by
 obtain ⟨r,rfl⟩:=ybe hr;obtain ⟨c,rfl⟩:=ybe hc
 obtain ⟨ρ',e,x1,x2,x3,x4,rfl⟩:=zcz (tg:=.one 7) (body:=zbO) (ds:=zaB 0 r) (S:=S) (fun k ρ=>∃x1 x2 x3 x4,ρ=[some (false,.scr l),some (false,.int at'),some (false,.tup ts),some (false,.int r),some (false,.int c),some (false,.int m),some (true,.lst (zce k c (zgV l at' ts.length m))),x1,x2,x3,x4]) (by
  rintro k d ρ hd ⟨x1,x2,x3,x4,rfl⟩;obtain ⟨rfl,hk⟩:=zci hd;obtain ⟨y',z',e⟩:=zmr (l:=l) (at':=at') (m:=m) (ts:=ts) (r:=r) (c:=c) (i:=k) (S:=S) (A:=some (false,.int r)) (B:=some (false,.int c)) (Mm:=some (true,.lst (zce k c (zgV l at' ts.length m)))) (y:=x3) (z:=x4) ha hp hm (by omega);refine ⟨_,_,rfl,?_,some (false,.int k),some (true,.lst (zcH c (zgV l at' ts.length m k))),y',z',rfl⟩
  ·rw [zkv]
   simp [zbO,e,zbI,show -1000000<=(c:Int)/\(c:Int)<=1000000 by omega,show k<=100000 by omega])
  (ρ:=[some (false,.scr l),some (false,.int at'),some (false,.tup ts),some (false,.int r),some (false,.int c),some (false,.int m),some (true,.lst []),none,none,none,none]) ⟨none,none,none,none,rfl⟩
 simp at e;simp [za0,zaw,zcr,e,flr,show -1000000<=(r:Int)/\(r:Int)<=1000000 by omega]
end S2
namespace S2
open PySem
open L2 hiding D
noncomputable abbrev plD(i j:Nat):D:=.tup [.int i,.int j]
noncomputable def zbX(r c:Nat):List D:=(List.range r).flatMap fun i=>(List.range c).map fun j=>plD i j
def zf3{k c:Nat}:zbX (k+1) c=zbX k c++(List.range c).map fun j=>plD k j:=by simp [zbX,ybT]
def zff{r c:Nat}{d:D}(h:d∈zbX r c):∃i j,i<r/\j<c/\d=plD i j:=by
 simp only [zbX,List.mem_flatMap,ybq,yaq] at h;obtain ⟨i,hi,j,hj,e⟩:=h;exact ⟨i,j,hi,hj,e.symm⟩
def zcL{r c:Nat}:(zbX r c).length=r*c:=by
 induction r with
 | zero=>simp [zbX]
 | succ k ih=>rw [zf3,yaw,ih];simp [Nat.succ_mul]
def zhz{r c:Nat}{g:Z1}{S:Sto}(h:1<=r):zbP [flr r c g] S=.ok (.tup [.int r,.int c]) S:=by
 have e:=zbF (c:=c) (g:=g) (i:=0) (r:=r) (by omega);simp [zbP,zaw,zeq,flr,e,zbI,show 0<r by omega]
def zeI{r c:Nat}{g:Z1}{S:Sto}(h:1<=r)(hr:r<=100)(hc:c<=100):zbt [flr r c g] S=.ok (.lst (zbX r c)) S:=by
 have inner:∀(k:Nat) (y:Option (Bool×D)),k<r->∃y',zd1 (.one 4) zbl (zaB 0 c) [some (false,flr r c g),some (false,.tup [.int r,.int c]),some (true,.lst (zbX k c)),some (false,.int k),y] S
   = .nx [some (false,flr r c g),some (false,.tup [.int r,.int c]),some (true,.lst (zbX (k+1) c)),some (false,.int k),y'] S:=by
  intro k y hk
  obtain ⟨ρ',e,y',rfl⟩:=zcz (tg:=.one 4) (body:=zbl) (ds:=zaB 0 c) (S:=S) (fun j ρ=>∃y,ρ=[some (false,flr r c g),some (false,.tup [.int r,.int c]),some (true,.lst (zbX k c++(List.range j).map fun j=>plD k j)),some (false,.int k),y]) (by
   rintro j d ρ hd ⟨y,rfl⟩;obtain ⟨rfl,hj⟩:=zci hd
   have hl:k*c+j<=100000:=by
    have:k*c<=100*100:=ybr (by omega) (by omega);omega
   refine ⟨_,_,rfl,?_,some (false,.int j),rfl⟩
   simp [zbl,ybT,zcL,hl])
   (ρ:=[some (false,flr r c g),some (false,.tup [.int r,.int c]),some (true,.lst (zbX k c)),some (false,.int k),y]) ⟨y,by simp⟩
  refine ⟨y',?_⟩;rw [e,zf3];simp
 obtain ⟨ρ',e,x,y,rfl⟩:=zcz (tg:=.one 3) (body:=zb7) (ds:=zaB 0 r) (S:=S) (fun k ρ=>∃x y,ρ=[some (false,flr r c g),some (false,.tup [.int r,.int c]),some (true,.lst (zbX k c)),x,y]) (by
  rintro k d ρ hd ⟨x,y,rfl⟩;obtain ⟨rfl,hk⟩:=zci hd;obtain ⟨y',e⟩:=inner k y (by omega);refine ⟨_,_,rfl,?_,some (false,.int k),y',rfl⟩
  simp [zb7,e,show -1000000<=(c:Int)/\(c:Int)<=1000000 by omega])
  (ρ:=[some (false,flr r c g),some (false,.tup [.int r,.int c]),some (true,.lst []),none,none]) ⟨none,none,rfl⟩
 simp at e;simp [zbt,zaw,zcQ,zhz h,e,show -1000000<=(r:Int)/\(r:Int)<=1000000 by omega]
def zdq{r c i j:Nat}{g:Z1}{S:Sto}(hi:i<r)(hj:j<c):zaF [flr r c g,plD i j] S=.ok (oD (g i j)) S:=by
 simp [zaF,zaw,zcS,flr,plD,zaW,zbF hi,zc9 hj,zbI]
def zch{l:List D}{a b:Int}{S:Sto}:zap [.tup l,.int a,.int b] S=.ok (.bl (decide (a<=l.length/\(l.length:Int)<=b))) S:=by
 by_cases h1:a<=(l.length:Int)
 ·by_cases h2:(l.length:Int)<=b<;>simp [zap,zaw,zbi,zdP,h1,h2]
 ·simp [zap,zaw,zbi,zdP,h1]
def zfY{l k:List D}{S:Sto}:za3 [.tup l,.tup k] S=.ok (.bl (decide (l.length=k.length))) S:=by
 simp [za3,zaw,zb4,zch];rw [<-Bool.decide_and,yb4];omega
def zpk{α:Type}{xs:List α}{p:α->Bool}:zfA (xs.map fun x=>D.bl (p x))=some (xs.map p):=by
 induction xs with
 | nil=>rfl
 | cons x xs ih=>simp [zfA,ih]
theorem all_map{α:Type}{xs:List α}{p:α->Bool}:zpG [.lst (xs.map fun x=>D.bl (p x))]=some (.bl (xs.all p)):=by
 show Option.map _ (zfA _)=_;rw [zpk];simp [List.all_map]
end S2
namespace S2
open PySem
open L2 hiding D
@[simp] def zyx{a b:Option Int}:eqD (oD a) (oD b)=some (.bl (decide (a=b))):=by
 cases a<;>cases b<;>simp [oD]
 ·rfl
 ·rfl
 ·rfl
@[simp] def zvH{a:Option Int}:zco (oD a)=decide (a=none):=by cases a<;>simp [oD]
def zd6{l:List D}{n:Nat}{S:Sto}:zap [.tup l,.int n,.int n] S=.ok (.bl (decide (l.length=n))) S:=by
 rw [zch];congr 3;apply propext;omega
def zhA{r c r' c':Nat}{g h:Z1}{S:Sto}(h1:1<=r)(hr:r<=1000):zcl [flr r c g,flr r' c' h] S=.ok (.bl (decide (r'=r/\c'=c))) S:=by
 by_cases e:r'=r
 ·subst e
  have hz:zdU (zce r' c g) (zce r' c' h)=(List.range r').map fun i=>.tup [zbI c (g i),zbI c' (h i)]:=by
   apply ybu;intro i
   by_cases hi:i<r'
   ·have:i<(zdU (zce r' c g) (zce r' c' h)).length:=by rw [zdT];simp;omega
    obtain ⟨x,y,e1,e2,e3⟩:=zeX (yac this);rw [zbF hi] at e1 e2;cases e1;cases e2;rw [yac this,e3];simp [hi]
   ·rw [yaV (by rw [zdT];simp;omega),yaV (by simp;omega)]
  have ec:zaH (.tup [0,1]) zbT (eFn za3 [(zac 0),(zac 1)]) [none,none] (zdU (zce r' c g) (zce r' c' h)) S=.ok ((List.range r').map fun _=>.bl (decide (c=c'))) S:=by
   rw [hz,zbB (g:=fun _=>.bl (decide (c=c')))]
   ·simp
   ·intro d hd;simp only [yaq,ybq] at hd;obtain ⟨i,hi,rfl⟩:=hd;exact ⟨_,rfl,by simp [zbI,zfY]⟩
  have ea:zpG [.lst ((List.range r').map fun _=>.bl (decide (c=c')))]=some (.bl (decide (c'=c))):=by
   rw [all_map (p:=fun _=>decide (c=c'))]
   by_cases hc:c=c'
   ·subst hc;simp
   ·have:((List.range r').all fun _=>false)=false:=by
     cases r' with
     | zero=>omega
     | succ n=>simp [ybT]
    simp only [hc,show ¬ c'=c from fun z=>hc z.symm,decide_false,this]
  simp only [List.map_const',ycY] at ec ea;simp [zcl,zaw,zdi,flr,zd6,ec,ea,show r'<=100000 by omega]
 ·simp [zcl,zaw,zdi,flr,zd6,e]
noncomputable def zcn(g:Z1):D->Bool | .tup [.int i,.int j]=>(g i.toNat j.toNat).isSome | _=>false
def zc6{r c:Nat}{g:Z1}{S:Sto}(h:1<=r)(hr:r<=100)(hc:c<=100):zah [flr r c g] S=.ok (.lst ((zbX r c).filter (zcn g))) S:=by
 have hl:((zbX r c).filter (zcn g)).length<=100000:=by
  refine yao (ybn _ _) ?_;rw [zcL];have:r*c<=100*100:=ybr hr hc;omega
 have e:zaH (.one 0) (zai ziv (eFn zaF [(zac 1),(zac 0)]) (zal .non)) (zac 0) [none,some (false,flr r c g)] (zbX r c) S=.ok ((zbX r c).filter (zcn g)) S:=by
  rw [zet (g:=id) (p:=zcn g)]
  ·simp
  ·intro d hd;obtain ⟨i,j,hi,hj,rfl⟩:=zff hd;refine ⟨_,rfl,?_,fun _=>by simp⟩;simp [zdq hi hj,zcn]
   cases g i j<;>rfl
 simp [zah,zaw,zb3,zeI h hr hc,e,hl]
end S2
namespace S2
open PySem
open L2 hiding D
def zfm{d:D}(h:d.pl=true)(f:d.fit 9=true):neD d d=some (.bl false):=by
 unfold neD zeA;rw [f,(zhX d d h h).mpr rfl];rfl
def zo8{d:D}(h:d.pl=true)(f:d.fit 9=true):eqD d d=some (.bl true):=by
 unfold eqD zeA;rw [f,(zhX d d h h).mpr rfl];rfl
end S2
namespace S2
open PySem
open L2 hiding D
noncomputable def zsF(ts:Z2)(n:Int)(s:Nat):Int:=(ts.getD n.toNat []).getD s 0
def zd5{i:Int}{S:Sto}:zaE [.int i] S=.ok (.bl true) S:=by simp [zaE,zaw,zcA,zdP]
def zgO{S:Sto}:zaE [.non] S=.ok (.bl false) S:=by simp [zaE,zaw,zcA,zdP]
def zeC{ts:List D}{o:Option Int}{S:Sto}(h:∀x,o=some x->0<=x/\x<ts.length):zbb [.tup ts,oD o] S=.ok (.bl o.isSome) S:=by
 cases o with
 | none=>simp [zbb,zaw,zbG,oD,zgO]
 | some x=>obtain ⟨h0,h1⟩:=h x rfl;simp [zbb,zaw,zbG,oD,zd5,h0,h1]
noncomputable def hp1:Fe:=zcb leD ltD (zal (.int 0)) (zai ixD (zaj 1) (zal (.int 0))) (zai ixD (zaj 2) (zal (.int 0)))
noncomputable def hp2:Fe:=zcb leD ltD (zal (.int 0)) (zai ixD (zaj 1) (zal (.int 1))) (zai ixD (zaj 2) (zal (.int 1)))
noncomputable def hpF:Fs:=(zan (sFz [1] (sIf (eOr (eUn zfl (eFn zap [(zac 1),(zal (.int 2)),(zal (.int 2))])) (eOr (eUn zfl (eFn zaE [(zai ixD (zaj 1) (zal (.int 0)))])) (eUn zfl (eFn zaE [(zai ixD (zaj 1) (zal (.int 1)))])))) (zan (sFz [] (zbh (zal (.bl false)))) sNx) sNx))
  (zan (sFz [0] (zcc 2 false (eFn zbP [(zac 0)]))) (zan (sFz [] (zbh (zhb hp1 hp2))) sNx)))
def zrO:zcT=hpF:=rfl
def ze9{r c:Nat}{g:Z1}{i j:Int}{S:Sto}(h1:1<=r):zbv [flr r c g,.tup [.int i,.int j]] S=.ok (.bl (decide ((0<=i/\i<r)/\0<=j/\j<c))) S:=by
 have ht:zap [.tup [.int i,.int j],.int 2,.int 2] S=.ok (.bl true) S:=by rw [zch];simp
 have sz:=zhz (c:=c) (g:=g) (S:=S) h1
 have t1:∀x,hp1 [x,some (false,.tup [.int i,.int j]),some (false,.tup [.int r,.int c])] S=.ok (.bl (decide (0<=i/\i<r))) S:=fun x=>by
  by_cases a:0<=i<;>simp [hp1,a]
 have t2:∀x,hp2 [x,some (false,.tup [.int i,.int j]),some (false,.tup [.int r,.int c])] S=.ok (.bl (decide (0<=j/\j<c))) S:=fun x=>by
  by_cases a:0<=j<;>simp [hp2,a]
 rw [Bool.decide_and];generalize decide (0<=i/\i<r)=b1 at *;generalize decide (0<=j/\j<c)=b2 at *;generalize flr r c g=fl at *;simp only [zbv,zaw,zrO]
 cases b1<;>simp [hpF,ht,zd5,sz,t1,t2]
noncomputable def cl2:Option Int->Option Int->Bool | some a,some b=>!decide (a=b) | _,_=>false
end S2
namespace S2
open PySem
open L2 hiding D
end S2
namespace S2
open PySem
open L2 hiding D
end S2
namespace S2
open PySem
open L2 hiding D
noncomputable def unI:D->Int | .int i=>i | _=>0
section
variable{ts:Z2}{c:Nat}{S:Sto}{s1 s3 s4:Option (Bool×D)}
end
end S2
namespace S2
open PySem
open L2 hiding D
end S2
namespace S2
open PySem
open L2 hiding D
end S2
namespace S2
open PySem
open L2 hiding D
noncomputable def zcp:Fs :=
  (zan (sFz [0,0] (zbh (zbj 1 (.one 0) (zaz (eFn zah [(zac 0)])) zbT (eFn zaF [(zac 1),(zac 0)]) [0])))
  sNx)
noncomputable def zbC:List S2.D->Sto->Out S2.D:=zbW 1 true zcp
noncomputable def zbM:Fs :=
  (zan (sFz [0,2,1] (zbh (zar zbo [(zbj 1 (.one 0) (zaz (zac 0)) zbT (eIf (zai eqD (zaj 0) (zaj 2)) (zac 1) (zac 0)) [2,1])])))
  sNx)
noncomputable def zaO:List S2.D->Sto->Out S2.D:=zbW 3 false zbM
noncomputable def zdz:Fs :=
  (zan (sFz [0,3] (sIf (eUn zfl (eFn zck [(zac 0),(zac 3)])) (zan (sFz [] (sRz "NoTile" [(zal (.str "the set has no such number"))])) sNx) sNx))
  (zan (sFz [1,3,2] (zbh (zar zbo [(zbj 1 (.one 0) (zaz (zac 1)) zbT (eFn zaO [(zac 0),(zac 2),(zac 1)]) [3,2])])))
  sNx))
noncomputable def zbR:List S2.D->Sto->Out S2.D:=zbW 4 false zdz
noncomputable def zer:Fs :=
  (zan (sFz [0,0] (zbh (zbj 1 (.one 0) (zaz (eUn zgI (zac 0))) zbT (zg9 [(zac 0),(eMt zdm 1 (zaj 0))]) [0])))
  sNx)
noncomputable def zdb:List S2.D->Sto->Out S2.D:=zbW 1 true zer
noncomputable def zg7:Fs :=
  (zan (sFz [0] (zbh (eFn zdb [(eFn zbC [(zac 0)])])))
  sNx)
noncomputable def zdr:List S2.D->Sto->Out S2.D:=zbW 1 true zg7
noncomputable def zcU:Fs :=
  (zan (sFz [1,2] (zcc 4 false (eFn zcj [(zac 1),(zac 2)])))
  (zan (sFz [1,3] (zcc 5 false (eFn zcj [(zac 1),(zac 3)])))
  (zan (sFz [1,2,5,3,4] (zbh (eFn za2 [(eFn za2 [(zac 1),(zac 2),(zac 5)]),(zac 3),(zac 4)])))
  sNx)))
noncomputable def za7:List S2.D->Sto->Out S2.D:=zbW 6 false zcU
end S2
namespace S2
open PySem
open L2 hiding D
noncomputable def zaP(r c:Nat)(g:Z1):List Int:=(List.range r).flatMap fun i=>(List.range c).filterMap fun j=>g i j
noncomputable def atP(g:Z1):D->D | .tup [.int i,.int j]=>oD (g i.toNat j.toNat) | _=>.non
theorem zfj{g:Z1}{i:Nat}:∀js:List Nat,(((js.map fun j=>plD i j).filter (zcn g)).map (atP g))=(js.filterMap fun j=>g i j).map D.int
 | []=>rfl
 | j::js=>by
  rw [yau,yb3,ybv]
  have e:zcn g (plD i j)=(g i j).isSome:=by show (g (i:Int).toNat (j:Int).toNat).isSome=_;rfl
  rw [e]
  cases h:g i j with
  | none=>simp only [Option.isSome,yaD,yby];exact zfj js
  | some x =>
   simp only [Option.isSome,ybP];rw [yau,yau,zfj js,show atP g (plD i j)=oD (g i j) from rfl,h];rfl
def zhM{r c:Nat}{g:Z1}:((zbX r c).filter (zcn g)).map (atP g)=(zaP r c g).map D.int:=by
 unfold zbX zaP;rw [List.filter_flatMap,List.map_flatMap,List.map_flatMap];congr 1;funext i;exact zfj _
def zlR{r c:Nat}{g:Z1}(hr:r<=100)(hc:c<=100):(zaP r c g).length<=10000:=by
 have e:=congrArg List.length (zhM (r:=r) (c:=c) (g:=g));rw [yaf,yaf] at e;rw [<-e];refine yao (ybn _ _) ?_;rw [zcL];exact ybr hr hc
def zfk{r c:Nat}{g:Z1}{x:Int}:x∈zaP r c g↔∃i j,i<r/\j<c/\g i j=some x:=by
 unfold zaP;simp only [List.mem_flatMap,ybq,ybM];exact ⟨fun ⟨i,hi,j,hj,e⟩=>⟨i,j,hi,hj,e⟩,fun ⟨i,j,hi,hj,e⟩=>⟨i,hi,j,hj,e⟩⟩
def zgQ{r c:Nat}{g:Z1}{S:Sto}(h:1<=r)(hr:r<=100)(hc:c<=100):zbC [flr r c g] S=.ok (.lst ((zaP r c g).map D.int)) S:=by
 have e:zaH (.one 0) zbT (eFn zaF [(zac 1),(zac 0)]) [none,some (false,flr r c g)] ((zbX r c).filter (zcn g)) S=.ok ((zaP r c g).map D.int) S:=by
  rw [zbB (g:=atP g),zhM];intro d hd;obtain ⟨i,j,hi,hj,rfl⟩:=zff ((ybc.mp hd).1);exact ⟨_,rfl,by simp [zdq hi hj,atP]⟩
 have hl:=zlR (g:=g) hr hc
 have hl2:((zbX r c).filter (zcn g)).length<=100000:=by
  refine yao (ybn _ _) ?_;rw [zcL];have:r*c<=100*100:=ybr hr hc;omega
 simp [zbC,zaw,zcp,zc6 h hr hc,e,hl2,show (zaP r c g).length<=100000 by omega]
theorem zg3:∀ns:List Int,zbS (ns.map D.int)=some ns
 | []=>rfl
 | n::ns=>by
  show (zbS (ns.map D.int)).map _=_;rw [zg3 ns];rfl
def zfe{a b:Int}:zeA (.int a) (.int b)=decide (a=b):=by
 by_cases h:a=b<;>simp [zeA,D.py,PyData.eqv,h]
noncomputable def zcZ(ns:List Int)(k:Int):Nat:=ns.countP fun x=>decide (x=k)
def ziF{ns:List Int}{k:Int}:zdm (ns.map D.int) (.int k)=some (.int (zcZ ns k:Nat)):=by
 unfold zdm;rw [show (D.int k).fit 8=true from rfl,show D.fits 8 (ns.map D.int)=true by rw [D.fits_iff];intro d hd;obtain ⟨y,_,rfl⟩:=yaq.mp hd;rfl];show some (D.int _)=_;rw [List.countP_map];have e:(fun d=>zeA d (.int k))∘D.int=fun x=>decide (x=k):=funext fun t=>zfe
 rw [e];rfl
noncomputable def zez(ns:List Int):List D:=(ST.zad ns).map fun k=>.tup [.int k,.int (zcZ ns k:Nat)]
def zi9{ns:List Int}(h:∀x∈ns,0<=x/\x<8):zgI (.lst (ns.map D.int))=some (.lst ((ST.zad ns).map D.int)):=by
 show (zbS (ns.map D.int)).bind _=_;rw [zg3];show (if _ then _ else _)=_;rw [if_pos (ybf.mpr fun x hx=>yaQ (h x hx))]
def zgR{ns:List Int}{S:Sto}(h:∀x∈ns,0<=x/\x<8):zdb [.lst (ns.map D.int)] S=.ok (.lst (zez ns)) S:=by
 have e:zaH (.one 0) zbT (zg9 [(zac 0),(eMt zdm 1 (zaj 0))]) [none,some (false,.lst (ns.map D.int))] ((ST.zad ns).map D.int) S=.ok (zez ns) S:=by
  rw [zbB (g:=fun d=>match d with | .int k=>.tup [.int k,.int (zcZ ns k:Nat)] | _=>.non)]
  ·unfold zez;rw [ybb];rfl
  ·intro d hd;obtain ⟨k,hk,rfl⟩:=yaq.mp hd;exact ⟨_,rfl,by simp [ziF]⟩
 have hl:(ST.zad ns).length<=100000:=yao ST.zaA (by decide)
 have hl2:(zez ns).length<=100000:=by unfold zez;rw [yaf];exact hl
 simp [zdb,zaw,zer,zi9 h,e,hl,hl2]
def zd8{r c:Nat}{g:Z1}{S:Sto}(h:1<=r)(hr:r<=100)(hc:c<=100)(hg:∀i j x,g i j=some x->0<=x/\x<8):zdr [flr r c g] S=.ok (.lst (zez (zaP r c g))) S:=by
 have hl:(zez (zaP r c g)).length<=100000:=by unfold zez;rw [yaf];exact yao ST.zaA (by decide)
 simp [zdr,zaw,zg7,zgQ h hr hc,zgR (ns:=zaP r c g) (fun x hx=>by obtain ⟨i,j,_,_,e⟩:=zfk.mp hx;exact hg i j x e),hl]
end S2
namespace S2
open PySem
open L2 hiding D
def zl2{ts:List D}{o:Option Int}{S:Sto}(h:∀x,o=some x->0<=x/\x<ts.length):zck [.tup ts,oD o] S=.ok (.bl true) S:=by
 have e:=zeC (ts:=ts) (o:=o) (S:=S) h
 cases o with
 | none=>simp [zck,zaw,zdh,oD]
 | some x =>
  simp only [oD] at e;simp [zck,zaw,zdh,oD,e]
noncomputable def rep(a b x:Option Int):Option Int:=if x=a then b else x
noncomputable abbrev repG(g:Z1)(a b:Option Int):Nat->Nat->Option Int:=fun i j=>rep a b (g i j)
noncomputable def zqF(a b:Option Int):D->D | .int n=>oD (rep a b (some n)) | _=>oD (rep a b none)
def zm1{a b x:Option Int}:zqF a b (oD x)=oD (rep a b x):=by cases x<;>rfl
def zfb{a b:Option Int}{c:Nat}{g:Nat->Option Int}:(zcH c g).map (zqF a b)=zcH c fun j=>rep a b (g j):=by
 unfold zcH;rw [ybb];congr 1;funext j;exact zm1
def zmB{a b:Option Int}{c:Nat}{g:Nat->Option Int}{S:Sto}:zaH (.one 0) zbT (eIf (zai eqD (zaj 0) (zaj 2)) (zac 1) (zac 0)) [none,some (false,oD b),some (false,oD a)] (zcH c g) S=.ok (zcH c fun j=>rep a b (g j)) S:=by
 rw [zbB (g:=zqF a b),zfb];intro d hd;obtain ⟨j,_,rfl⟩:=yaq.mp hd;refine ⟨_,rfl,?_⟩;rw [zm1]
 by_cases e:g j=a
 ·simp [e,rep]
 ·simp [e,rep]
def zdN{a b:Option Int}{c:Nat}{g:Nat->Option Int}{S:Sto}(hc:c<=100):zaO [zbI c g,oD a,oD b] S=.ok (zbI c fun j=>rep a b (g j)) S:=by
 have e:=zmB (a:=a) (b:=b) (c:=c) (g:=g) (S:=S);simp [zaO,zaw,zbM,zbI,e,show c<=100000 by omega]
def zfZ{ts:List D}{a b:Option Int}{r c:Nat}{g:Z1}{S:Sto}(hb:∀x,b=some x->0<=x/\x<ts.length)(hr:r<=100)(hc:c<=100):zbR [.tup ts,flr r c g,oD a,oD b] S=.ok (flr r c (repG g a b)) S:=by
 have e:zaH (.one 0) zbT (eFn zaO [(zac 0),(zac 2),(zac 1)]) [none,some (false,oD b),some (false,oD a)] (zce r c g) S=.ok (zce r c (repG g a b)) S:=by
  rw [zbB (g:=fun d=>match d with | .tup l=>.tup (l.map (zqF a b)) | _=>.non)]
  ·unfold zce zbI;rw [ybb];congr 2;funext i;show D.tup _=_;rw [zfb]
  ·intro d hd;obtain ⟨i,_,rfl⟩:=yaq.mp hd;refine ⟨_,rfl,?_⟩;show _=Out.ok (D.tup ((zcH c (g i)).map (zqF a b))) S;rw [zfb];have q:=zdN (a:=a) (b:=b) (g:=g i) (S:=S) hc;simp only [zbI] at q ⊢;simp [q]
 have hl:r<=100000:=by omega
 simp [zbR,zaw,zdz,zl2 hb,flr,e,hl]
def zqD{c:Nat}{f:Nat->Option Int}:(zbI c f).pl=true:=by
 show D.pls (zcH c f)=true;rw [D.pls_iff];intro d hd;obtain ⟨j,_,rfl⟩:=yaq.mp hd
 cases f j<;>rfl
def zn8{c n:Nat}{f:Nat->Option Int}:(zbI c f).fit (n+1)=true:=by
 show D.fits n (zcH c f)=true;rw [D.fits_iff];intro d hd;obtain ⟨j,_,rfl⟩:=yaq.mp hd
 cases f j<;>simp [oD]
def zrT{r c:Nat}{g:Z1}:(flr r c g).pl=true:=by
 show D.pls (zce r c g)=true;rw [D.pls_iff];intro d hd;obtain ⟨j,_,rfl⟩:=yaq.mp hd;exact zqD
def zo2{r c n:Nat}{g:Z1}:(flr r c g).fit (n+2)=true:=by
 show D.fits (n+1) (zce r c g)=true;rw [D.fits_iff];intro d hd;obtain ⟨j,_,rfl⟩:=yaq.mp hd;exact zn8
def zoF{r c:Nat}{g:Z1}:neD (flr r c g) (flr r c g)=some (.bl false):=zfm zrT zo2
end S2
namespace S2
open PySem
open L2 hiding D
noncomputable def zoN(i:Nat)(ρ:Env)(l:List D)(d:D):Out D->Fo
 | .ok (.int n) S2=>(match ixN l.length n with | some k=>.nx (ρ.set i (some (true,.lst (l.set k d)))) S2 | none=>.bad)
 | .ok _ _=>.bad
 | .exc c S2=>.ex c ρ S2 | .bad=>.bad
noncomputable def zmc(i:Nat)(fi:Fe)(ρ:Env)(l:List D):Out D->Fo | .ok d S1=>zoN i ρ l d (fi ρ S1) | .exc c S1=>.ex c ρ S1 | .bad=>.bad
noncomputable def zwx(i:Nat)(fi fe:Fe)(ρ:Env)(S:Sto):Option (Option (Bool×D))->Fo | some (some (true,.lst l))=>zmc i fi ρ l (fe ρ S) | _=>.bad
noncomputable def zww(und:Str->Str->Bool)(C:Str)(i j:Nat):Fo->Fo
 | .ex c ρ' S'=>if und c C&&decide (i<ρ'.length) then .nx ((ρ'.set j (some (false,.exc c))).set i none) S' else .bad
 | o=>o
section
variable{ρ:Env}{S:Sto}{f g:Fe}{a:Fs}
@[simp] def zsP{i:Nat}:zjm i f g ρ S=zwx i f g ρ S ρ[i]?:=by
 unfold zjm
 cases ρ[i]? with
 | none=>rfl
 | some o=>cases o with
  | none=>rfl
  | some p =>
   obtain ⟨b,d⟩:=p
   cases b with
   | false=>rfl
   | true=>cases d with
    | lst l =>
     show _=zmc i f ρ l (g ρ S)
     cases g ρ S with
     | ok d S1 =>
      show _=zoN i ρ l d (f ρ S1);dsimp only
      cases f ρ S1 with
      | ok d' S2=>cases d'<;>rfl
      | exc c S2=>rfl
      | bad=>rfl
     | exc c S1=>rfl
     | bad=>rfl
    | _=>rfl
@[simp] def zxS{i:Nat}{l:List D}:zwx i f g ρ S (some (some (true,.lst l)))=zmc i f ρ l (g ρ S):=(rfl)
@[simp] def zvQ{i:Nat}{l:List D}{d:D}:zmc i f ρ l (.ok d S)=zoN i ρ l d (f ρ S):=(rfl)
@[simp] def zvP{und:Str->Str->Bool}{C:Str}{i j:Nat}:zww und C i j (.nx ρ S)=.nx ρ S:=(rfl)
@[simp] def zvO{und:Str->Str->Bool}{C c:Str}{i j:Nat}:zww und C i j (.ex c ρ S)=if und c C&&decide (i<ρ.length) then .nx ((ρ.set j (some (false,.exc c))).set i none) S else .bad:=(rfl)
@[simp] def zxa{w:Str->Str->Option Bool}{C c:Str}:zym w C (.exc c)=(w c C).map .bl:=(rfl)
@[simp] def zu3{c:Str}:zco (.exc c)=false:=(rfl)
@[simp] def zu2{l:List D}:zco (.lst l)=false:=(rfl)
@[simp] def zu7{l:List D}{j:Int}:ziw (.lst l) (.int j)=if decide (0<=j/\j<=1000/\l.length<=1000) then some (.lst (List.replicate j.toNat l).flatten) else none:=(rfl)
end
noncomputable abbrev Gf:=Nat->Nat->Option Int
noncomputable def ov(g h:Gf):Gf:=fun i j=>(h i j).or (g i j)
noncomputable def un(g h:Gf):Gf:=fun i j=>if (h i j).isSome then none else g i j
noncomputable def ovs:List Gf->Gf
 | []=>fun _ _=>none
 | g::hs=>ov g (ovs hs)
noncomputable def zdO:List Gf->List Gf
 | []=>[]
 | g::hs=>un g (ovs hs)::zdO hs
def zlN{g h k:Gf}:ov (ov g h) k=ov g (ov h k):=by
 funext i j;unfold ov;cases k i j<;>rfl
def zq7{g:Gf}:ov g (fun _ _=>none)=g:=by funext i j;unfold ov;rfl
theorem zku{g:Gf}:∀{hs:List Gf},hs.foldl ov g=ov g (ovs hs)
 | []=>by simp [ovs,zq7]
 | h::hs=>by simp [ovs,zku (hs:=hs),zlN]
def zs2{g h k:Gf}:un (un g h) k=un g (ov h k):=by
 funext i j;unfold un ov;cases k i j<;>cases h i j<;>rfl
def zpK{g:Gf}:un g (fun _ _=>none)=g:=by funext i j;unfold un;rfl
theorem zkt{g:Gf}:∀{hs:List Gf},hs.foldl un g=un g (ovs hs)
 | []=>by simp [ovs,zpK]
 | h::hs=>by simp [ovs,zkt (hs:=hs),zs2]
theorem zeb:∀{gs:List Gf},(zdO gs).length=gs.length
 | []=>rfl
 | g::hs=>by simp [zdO,zeb (gs:=hs)]
noncomputable def psN(r c:Nat):List (Nat×Nat):=(List.range r).flatMap fun i=>(List.range c).map fun j=>(i,j)
def zjE{r c:Nat}:zbX r c=(psN r c).map fun p=>plD p.1 p.2:=by
 simp [zbX,psN,List.map_flatMap,Function.comp_def]
def zoh{r c:Nat}:(psN r c).length=r*c:=by
 have:=congrArg List.length (zjE (r:=r) (c:=c));rw [zcL,yaf] at this;exact this.symm
noncomputable def cnt(P:List (Nat×Nat))(p:Nat->Nat->Bool):Nat:=P.countP fun q=>p q.1 q.2
def zkN{P:List (Nat×Nat)}{p:Nat->Nat->Bool}:cnt P p<=P.length:=List.countP_le_length
def zeu{P:List (Nat×Nat)}{p q s:Nat->Nat->Bool}(h:∀i j,(p i j).toNat=(q i j).toNat+(s i j).toNat):cnt P p=cnt P q+cnt P s:=by
 unfold cnt
 induction P with
 | nil=>rfl
 | cons x P ih =>
  have:=h x.1 x.2;simp only [List.countP_cons,ih]
  cases hp:p x.1 x.2<;>cases hq:q x.1 x.2<;>cases hs:s x.1 x.2<;>simp [hp,hq,hs] at this ⊢<;>omega
noncomputable def lay(g:Gf):Nat->Nat->Bool:=fun i j=>(g i j).isSome
def zfo{r c:Nat}{g:Gf}:((zbX r c).filter (zcn g)).length=cnt (psN r c) (lay g):=by
 rw [zjE,List.filter_map,yaf,<-List.countP_eq_length_filter];rfl
noncomputable def cov(g w:Gf):Nat->Nat->Bool:=fun i j=>(g i j).isSome&&(w i j).isSome
def zkO{P:List (Nat×Nat)}{g w:Gf}:cnt P (lay g)=cnt P (lay (un g w))+cnt P (cov g w):=by
 apply zeu;intro i j;unfold lay un cov
 cases g i j<;>cases w i j<;>rfl
def zr1{P:List (Nat×Nat)}{g w:Gf}:cnt P (lay (ov g w))=cnt P (lay (un g w))+cnt P (lay w):=by
 apply zeu;intro i j;unfold lay un ov
 cases g i j<;>cases w i j<;>rfl
noncomputable def zfG(P:List (Nat×Nat)):List Gf->List Nat
 | []=>[]
 | g::hs=>cnt P (cov g (ovs hs))::zfG P hs
noncomputable def zsC(P:List (Nat×Nat)):List Gf->List Int
 | []=>[]
 | g::hs=>(((cnt P (lay g):Nat):Int)-((cnt P (lay (un g (ovs hs))):Nat):Int))::zsC P hs
theorem zhU{P:List (Nat×Nat)}:∀{gs:List Gf},zsC P gs=(zfG P gs).map fun (n:Nat)=>(n:Int)
 | []=>rfl
 | g::hs=>by
  have:=zkO (P:=P) (g:=g) (w:=ovs hs);simp only [zsC,zfG,yau,zhU (gs:=hs),List.cons.injEq,and_true];omega
end S2
namespace S2
open PySem
open L2 hiding D
end S2
namespace S2
open PySem
open L2 hiding D
noncomputable def sh1:D->Bool | .non=>true | .bl _=>true | .int _=>true | .str _=>true | .tup _=>true | .lst _=>true | _=>false
noncomputable def sh2:D->Bool | .tup l=>l.all sh1 | d=>sh1 d
end S2
namespace S2
open PySem
open L2 hiding D
noncomputable def zwE(c f:Str):Out D->Out D | .ok d S=>(match zpB c f d S with | some r=>.ok r S | none=>.bad) | .exc c S=>.exc c S | .bad=>.bad
noncomputable def zhS(G:List D->Sto->Out D)(d:D):Out (List D)->Out D | .ok ds S=>G (d::ds) S | .exc c S=>.exc c S | .bad=>.bad
noncomputable def zrF(c m:Str)(G:List D->Sto->Out D)(fs:List Fe)(ρ:Env):Out D->Out D | .ok d S=>if zde c m d S then zhS G d (zae fs ρ S) else .bad | .exc c S=>.exc c S | .bad=>.bad
noncomputable def zsy(n:Nat):Out D->Out D | .ok r S=>(match r with | .non=>.ok (.ref n) S | _=>.bad) | .exc c S=>.exc c S | .bad=>.bad
noncomputable def kMk(c:Str)(dds:List D)(G:List D->Sto->Out D):Out (List D)->Out D | .ok ds S=>zsy S.length (G (.ref S.length::(ds++dds)) (S++[⟨c,[]⟩])) | .exc c S=>.exc c S | .bad=>.bad
noncomputable def zmd(c f:Str)(dk:D):Out D->Out D | .ok d S=>(match zk7 dk,zh2 c f d S with | some k,some (_,_,ds)=>.ok (.bl (zcX k ds).isNone) S | _,_=>.bad) | .exc c S=>.exc c S | .bad=>.bad
noncomputable def zwz(c f:Str)(fo:Fe)(ρ:Env):Out D->Out D | .ok d S=>zmd c f d (fo ρ S) | .exc c S=>.exc c S | .bad=>.bad
noncomputable def zwC(c f:Str)(o:Option NK):Out D->Out D | .ok d S=>(match o,zh2 c f d S with | some k,some (_,_,ds)=>(match zcX k ds with | some r=>.ok r S | none=>.bad) | _,_=>.bad) | .exc c S=>.exc c S | .bad=>.bad
section
variable{ρ:Env}{S:Sto}{f g h k:Fe}
@[simp] def zvk{c x:Str}:zpa c x f ρ S=zwE c x (f ρ S):=by unfold zpa;cases f ρ S<;>rfl
@[simp] def zya{c x:Str}{d:D}:zwE c x (.ok d S)=(match zpB c x d S with | some r=>.ok r S | none=>.bad):=(rfl)
@[simp] def zsY{c m:Str}{G:List D->Sto->Out D}{fs:List Fe}:zgn c m G f fs ρ S=zrF c m G fs ρ (f ρ S):=by
 unfold zgn
 cases f ρ S with
 | ok d S1 =>
  show (if zde c m d S1 then (zae fs ρ S1).bind fun ds S2=>G (d::ds) S2 else .bad)=(if zde c m d S1 then zhS G d (zae fs ρ S1) else .bad)
  cases zae fs ρ S1<;>rfl
 | exc c S=>rfl
 | bad=>rfl
@[simp] def zv8{c m:Str}{G:List D->Sto->Out D}{fs:List Fe}{d:D}:zrF c m G fs ρ (.ok d S)=if zde c m d S then zhS G d (zae fs ρ S) else .bad:=(rfl)
@[simp] def ztT{G:List D->Sto->Out D}{d:D}{ds:List D}:zhS G d (.ok ds S)=G (d::ds) S:=(rfl)
@[simp] def zxk{c:Str}{dds:List D}{G:List D->Sto->Out D}{fs:List Fe}:eMk c dds G fs ρ S=kMk c dds G (zae fs ρ S):=by
 unfold eMk
 cases zae fs ρ S with
 | ok ds S1 =>
  show ((G (.ref S1.length::(ds++dds)) (S1++[⟨c,[]⟩])).bind fun r S2=>match r with | .non=>.ok (.ref S1.length) S2 | _=>.bad)=zsy S1.length (G (.ref S1.length::(ds++dds)) (S1++[⟨c,[]⟩]))
  cases G (.ref S1.length::(ds++dds)) (S1++[⟨c,[]⟩])<;>rfl
 | exc c S=>rfl
 | bad=>rfl
@[simp] def zyN{c:Str}{dds:List D}{G:List D->Sto->Out D}{ds:List D}:kMk c dds G (.ok ds S)=zsy S.length (G (.ref S.length::(ds++dds)) (S++[⟨c,[]⟩])):=(rfl)
@[simp] def zxZ{n:Nat}:zsy n (.ok .non S)=.ok (.ref n) S:=(rfl)
@[simp] def zvh{c x:Str}:zo9 c x f g ρ S=zwz c x g ρ (f ρ S):=by
 unfold zo9
 cases f ρ S with
 | ok d S1 =>
  show ((g ρ S1).bind fun d' S2=>match zk7 d,zh2 c x d' S2 with | some k,some (_,_,ds)=>.ok (.bl (zcX k ds).isNone) S2 | _,_=>.bad)=zmd c x d (g ρ S1)
  cases g ρ S1<;>rfl
 | exc c S=>rfl
 | bad=>rfl
@[simp] def zxX{c x:Str}{d:D}:zwz c x g ρ (.ok d S)=zmd c x d (g ρ S):=(rfl)
@[simp] def zv7{c x:Str}{dk d:D}:zmd c x dk (.ok d S)=(match zk7 dk,zh2 c x d S with | some k,some (_,_,ds)=>.ok (.bl (zcX k ds).isNone) S | _,_=>.bad):=(rfl)
@[simp] def zvj{c x:Str}{i:Nat}:zkE c x f i ρ S=zwC c x (znd ρ i) (f ρ S):=by unfold zkE;cases f ρ S<;>rfl
@[simp] def zx6{c x:Str}{d:D}{o:Option NK}:zwC c x o (.ok d S)=(match o,zh2 c x d S with | some k,some (_,_,ds)=>(match zcX k ds with | some r=>.ok r S | none=>.bad) | _,_=>.bad):=(rfl)
end
section
variable{S:Sto}{n:Nat}{ts:Z2}{gr:Z4}{r c:Nat}{b:Bool}{ds:List (D×D)}
noncomputable def tl(ts:Z2)(x:Int):D:=.tup [.int (zsF ts x 0),.int (zsF ts x 1),.int (zsF ts x 2),.int (zsF ts x 3)]
noncomputable def sb8:Fe:=eIf (zhb (zpa "Ways" "is_round" (zac 0)) (eUn zfl (zac 4))) (zgn "Ways" "colour_round" zcJ (zac 0) [(zac 1),(zac 2),(zac 3)]) (zal .non)
end
end S2
namespace S2
open PySem
open L2 hiding D
section
variable{S:Sto}{n:Nat}{ts:Z2}{gr:Z4}{r c:Nat}{b:Bool}{ds:List (D×D)}
end
end S2
namespace S2
open PySem
open L2 hiding D
noncomputable def zj8(c x:Str)(i:Nat)(ρ:Env)(r:D):Out D->Fo
 | .bad=>.bad
 | .exc c S2=>.ex c ρ S2
 | .ok d S2=>(match znd ρ i,zh2 c x d S2 with
   | some k,some (n,ob,ds)=>if (zcX k ds).isNone&&decide (ds.length<=1000000)&&zjV ob then .nx ρ (S2.set n (ob.put x true (.dic (ds++[(nkD k,r)])))) else .bad
   | _,_=>.bad)
noncomputable def zoO(c x:Str)(f:Fe)(i:Nat)(ρ:Env):Out D->Fo
 | .bad=>.bad
 | .exc c S2=>.ex c ρ S2
 | .ok r S1=>zj8 c x i ρ r (f ρ S1)
@[simp] def zsS{c x:Str}{f g:Fe}{i:Nat}{ρ:Env}{S:Sto}:zjo c x f i g ρ S=zoO c x f i ρ (g ρ S):=by
 unfold zjo zoO
 cases g ρ S with
 | ok r S1=>dsimp only;unfold zj8;cases f ρ S1<;>rfl
 | exc c S=>rfl
 | bad=>rfl
@[simp] def zv5{c x:Str}{f:Fe}{i:Nat}{ρ:Env}{S:Sto}{r:D}:zoO c x f i ρ (.ok r S)=zj8 c x i ρ r (f ρ S):=(rfl)
noncomputable def zlq(q:Nat):Nat->Nat
 | 0=>0
 | m+1=>1+q*zlq q m
section
variable{n:Nat}{ts:Z2}{gr:Z4}{r c:Nat}{b:Bool}
end
end S2
namespace S2
open PySem
open L2 hiding D
noncomputable def zka(c x:Str)(ρ:Env)(r:D):Out D->Fo
 | .bad=>.bad
 | .exc c S2=>.ex c ρ S2
 | .ok (.ref n) S2=>(match S2[n]? with
   | some ob=>if decide (ob.cls=c)&&decide (ob.fs.length<1000) then .nx ρ (S2.set n (ob.put x false r)) else .bad
   | none=>.bad)
 | .ok _ _=>.bad
noncomputable def zoQ(c x:Str)(f:Fe)(ρ:Env):Out D->Fo
 | .bad=>.bad
 | .exc c S2=>.ex c ρ S2
 | .ok r S1=>zka c x ρ r (f ρ S1)
@[simp] def zsT{c x:Str}{f g:Fe}{ρ:Env}{S:Sto}:zjp c x f g ρ S=zoQ c x f ρ (g ρ S):=by
 unfold zjp zoQ
 cases g ρ S with
 | ok r S1 =>
  dsimp only;unfold zka
  cases f ρ S1 with
  | ok d S2=>cases d<;>rfl
  | exc c S=>rfl
  | bad=>rfl
 | exc c S=>rfl
 | bad=>rfl
@[simp] def zwf{c x:Str}{f:Fe}{ρ:Env}{S:Sto}{r:D}:zoQ c x f ρ (.ok r S)=zka c x ρ r (f ρ S):=(rfl)
end S2
namespace S2
open PySem
open L2 hiding D
section
variable{w:D}{ts:Z2}{c:Nat}{t:List Int}{n:Int}{S:Sto}{s1 s3 s4 s5 s8 x:Option (Bool×D)}
end
section
variable{ts:Z2}{c:Nat}{S:Sto}{s1 s3 s4:Option (Bool×D)}{o:Option Int}
end
end S2
namespace S2
open PySem
open L2 hiding D
end S2
namespace S2
open PySem
open L2 hiding D
def zgj{tg:Tg}{body:Fs}{d:D}{ds:List D}{ρ ρ1 ρ2:Env}{S:Sto}(h1:tg.put ρ d=some ρ1)(h2:body ρ1 S=.nx ρ2 S):zd1 tg body (d::ds) ρ S=zd1 tg body ds ρ2 S:=by
 rw [zd1,h1];dsimp only;rw [h2]
def zbn{tg:Tg}{elt:Fe}{d y:D}{ds ys:List D}{ρ0 ρ1:Env}{S:Sto}(h1:tg.put ρ0 d=some ρ1)(h2:elt ρ1 S=.ok y S)(h3:zaH tg zbT elt ρ0 ds S=.ok ys S):zaH tg zbT elt ρ0 (d::ds) S=.ok (y::ys) S:=by
 rw [zaH,h1];simp [h2,h3]
theorem ziS{α:Type}{f k:α->D}:∀{xs:List α},zdU (xs.map f) (xs.map k)=xs.map fun x=>.tup [f x,k x]
 | []=>rfl
 | x::xs=>by simp [zdU,ziS (xs:=xs)]
def zeH{r c r' c':Nat}{g h:Gf}{S:Sto}(h1:1<=r)(hr:r<=1000):zax [flr r c g,flr r' c' h] S=if r'=r/\c'=c then .ok .non S else .exc "Unlike" S:=by
 by_cases e:r'=r/\c'=c
 ·simp [zax,zaw,za5,zhA h1 hr,e]
 ·rw [if_neg e];simp [zax,zaw,za5,zhA h1 hr,e]
def zdS{c:Nat}{f g h:Nat->D}{elt:Fe}{S:Sto}(he:∀j,j<c->elt [some (false,f j),some (false,g j)] S=.ok (h j) S):zaH (.tup [0,1]) zbT elt [none,none] (zdU ((List.range c).map f) ((List.range c).map g)) S=.ok ((List.range c).map h) S:=by
 rw [ziS]
 have:∀{xs:List Nat},(∀x∈xs,x<c)->zaH (.tup [0,1]) zbT elt [none,none] (xs.map fun x=>.tup [f x,g x]) S=.ok (xs.map h) S:=by
  intro xs
  induction xs with
  | nil=>intro _;rfl
  | cons x xs ih =>
   intro hx;have e1:=he x (hx x yaE);have e2:=ih fun y hy=>hx y (yav _ hy)
   rw [yau];unfold zaH;simp [e1,e2]
 exact this fun x hx=>ybq.mp hx
def zfX{c:Nat}{g h:Nat->Option Int}{S:Sto}(hc:c<=1000):zbQ [zbI c g,zbI c h] S=.ok (zbI c fun j=>(h j).or (g j)) S:=by
 have e:=zdS (c:=c) (f:=fun j=>oD (g j)) (g:=fun j=>oD (h j)) (h:=fun j=>oD ((h j).or (g j))) (elt:=eIf (zai zmg (zaj 1) (zal .non)) (zac 0) (zac 1)) (S:=S) (by
  intro j hj
  cases hh:h j<;>simp [oD])
 simp [zbQ,zaw,zdy,zbI,zcH,e,show c<=100000 by omega]
def ze8{c:Nat}{g h:Nat->Option Int}{S:Sto}(hc:c<=1000):zbs [zbI c g,zbI c h] S=.ok (zbI c fun j=>if (h j).isSome then none else g j) S:=by
 have e:=zdS (c:=c) (f:=fun j=>oD (g j)) (g:=fun j=>oD (h j)) (h:=fun j=>oD (if (h j).isSome then none else g j)) (elt:=eIf (zai zmg (zaj 1) (zal .non)) (zac 0) (zal .non)) (S:=S) (by
  intro j hj
  cases hh:h j<;>simp [oD])
 simp [zbs,zaw,zcP,zbI,zcH,e,show c<=100000 by omega]
def zlo{r c:Nat}{g h:Gf}{S:Sto}(h1:1<=r)(hr:r<=1000)(hc:c<=1000):zhD [flr r c g,flr r c h] S=.ok (flr r c (ov g h)) S:=by
 have e:=zdS (c:=r) (f:=fun i=>zbI c (g i)) (g:=fun i=>zbI c (h i)) (h:=fun i=>zbI c (ov g h i)) (elt:=eFn zbQ [(zac 0),(zac 1)]) (S:=S) (by
  intro i hi
  simp [zfX hc];rfl)
 have u:=zeH (c:=c) (c':=c) (r':=r) (g:=g) (h:=h) (S:=S) h1 hr;simp [flr,zce] at u;simp [zhD,zaw,zkz,flr,zce,u,e,show r<=100000 by omega]
def zjq{r c:Nat}{g h:Gf}{S:Sto}(h1:1<=r)(hr:r<=1000)(hc:c<=1000):zfd [flr r c g,flr r c h] S=.ok (flr r c (un g h)) S:=by
 have e:=zdS (c:=r) (f:=fun i=>zbI c (g i)) (g:=fun i=>zbI c (h i)) (h:=fun i=>zbI c (un g h i)) (elt:=eFn zbs [(zac 0),(zac 1)]) (S:=S) (by
  intro i hi
  simp [ze8 hc];rfl)
 have u:=zeH (c:=c) (c':=c) (r':=r) (g:=g) (h:=h) (S:=S) h1 hr;simp [flr,zce] at u;simp [zfd,zaw,zg6,flr,zce,u,e,show r<=100000 by omega]
noncomputable abbrev lays(r c:Nat)(gs:List Gf):List D:=gs.map (flr r c)
def zyy{α:Type}{x:α}{l:List α}:zdR (x::l) (some 1) none=l:=by
 have:HT.sIx (x::l).length 0 (some 1)=1:=by
  have:=HT.zgM (x::l).length 0 1;rw [show ((1:Nat):Int)=1 from rfl] at this;rw [this];simp
 unfold zdR;rw [this];simp [HT.sIx]
theorem zfW{r c:Nat}{S:Sto}{A:Option (Bool×D)}(h1:1<=r)(hr:r<=1000)(hc:c<=1000):∀(hs:List Gf) (g:Gf) (x:Option (Bool×D)),∃x',zd1 (.one 2) zfB (lays r c hs) [A,some (false,flr r c g),x] S=.nx [A,some (false,flr r c (hs.foldl ov g)),x'] S
 | [],g,x=>⟨x,rfl⟩
 | h::hs,g,x=>by
  obtain ⟨x',e⟩:=zfW (S:=S) h1 hr hc hs (ov g h) (some (false,flr r c h)) (A:=A);exact ⟨x',(zgj rfl (by simp [zfB,zlo h1 hr hc])).trans e⟩
def ze7{r c:Nat}{g:Gf}{hs:List Gf}{S:Sto}(h1:1<=r)(hr:r<=1000)(hc:c<=1000):zda [.lst (lays r c (g::hs))] S=.ok (flr r c (ovs (g::hs))) S:=by
 obtain ⟨x',e⟩:=zfW (S:=S) (A:=some (false,.lst (lays r c (g::hs)))) h1 hr hc hs g none;rw [zku] at e;simp [lays] at e;simp [zda,zaw,zky,zyy,e,ovs]
theorem zeE{r c:Nat}{S:Sto}{A B:Option (Bool×D)}(h1:1<=r)(hr:r<=1000)(hc:c<=1000):∀(hs:List Gf) (g:Gf) (x:Option (Bool×D)),∃x',zd1 (.one 3) zb6 (lays r c hs) [A,B,some (false,flr r c g),x] S=.nx [A,B,some (false,flr r c (hs.foldl un g)),x'] S
 | [],g,x=>⟨x,rfl⟩
 | h::hs,g,x=>by
  obtain ⟨x',e⟩:=zeE (S:=S) h1 hr hc hs (un g h) (some (false,flr r c h)) (A:=A) (B:=B);exact ⟨x',(zgj rfl (by simp [zb6,zjq h1 hr hc])).trans e⟩
def ze6{r c:Nat}{g:Gf}{hs:List Gf}{S:Sto}(h1:1<=r)(hr:r<=1000)(hc:c<=1000):zbr [flr r c g,.lst (lays r c hs)] S=.ok (flr r c (un g (ovs hs))) S:=by
 obtain ⟨x',e⟩:=zeE (S:=S) (A:=some (false,flr r c g)) (B:=some (false,.lst (lays r c hs))) h1 hr hc hs g none;rw [zkt] at e;simp [lays] at e;simp [zbr,zaw,zcO,e]
def zkI{α:Type}{l:List α}{n:Nat}:zdR l (some (n:Int)) none=l.drop n:=by
 unfold zdR;rw [HT.zgM];simp [HT.sIx]
 by_cases h:n<=l.length
 ·rw [ybS h];exact ybK (by simp)
 ·rw [List.drop_eq_nil_of_le (show l.length<=n by omega),List.drop_eq_nil_of_le (by omega)];simp
def zrZ{α:Type}{l:List α}{n:Nat}(h:n<=l.length):zdR l none (some (n:Int))=l.take n:=by
 unfold zdR;rw [HT.zgM];simp [HT.sIx,ybS h]
def zc5{r c:Nat}{gs:List Gf}{S:Sto}(h1:1<=r)(hr:r<=1000)(hc:c<=1000)(hn:gs.length<=100):zbu [.lst (lays r c gs)] S=.ok (.lst (lays r c (zdO gs))) S:=by
 have e:∀(k:Nat) (hs:List Gf),gs.drop k=hs->zaH (.tup [0,1]) zbT (eFn zbr [(zac 1),(eSl (zaj 2) (some (zai zbU (zaj 0) (zal (.int 1)))) none)]) [none,none,some (false,.lst (lays r c gs))] (((lays r c hs).zipIdx k).map fun p=>.tup [.int p.2,p.1]) S=.ok (lays r c (zdO hs)) S:=by
  intro k hs
  induction hs generalizing k with
  | nil=>intro _;rfl
  | cons g hs ih =>
   intro hd
   have hd':gs.drop (k+1)=hs:=by rw [<-List.drop_drop,hd];rfl
   have ih':=ih (k+1) hd';have hu:=ze6 (r:=r) (c:=c) (g:=g) (hs:=hs) (S:=S) h1 hr hc
   have hcut:zdR (lays r c gs) (some ((k:Int)+1)) none=lays r c hs:=by
    rw [show (k:Int)+1=((k+1:Nat):Int) by omega,zkI,lays,<-yc2,hd']
   refine zbn (ρ1:=[some (false,.int k),some (false,flr r c g),some (false,.lst (lays r c gs))]) rfl ?_ ih';simp [hcut,hu]
 have e0:=e 0 gs rfl;simp only [lays] at e0
 have hl:(zdO gs).length<=100000:=by rw [zeb];omega
 simp [zbu,zaw,zcR,zdk,e0,hl]
def ziq{r c:Nat}{gs:List Gf}{S:Sto}(h1:1<=r)(hr:r<=100)(hc:c<=100)(hn:gs.length<=100):zdW [.lst (lays r c gs)] S=.ok (.lst ((zfG (psN r c) gs).map fun (n:Nat)=>D.int n)) S:=by
 have e:∀(hs:List Gf),zaH (.tup [0,1]) zbT (zai zpy (zar zc2 [(eFn zah [(zac 0)])]) (zar zc2 [(eFn zah [(zac 1)])])) [none,none] (zdU (lays r c hs) (lays r c (zdO hs))) S=.ok ((zsC (psN r c) hs).map D.int) S:=by
  intro hs
  induction hs with
  | nil=>rfl
  | cons g hs ih =>
   refine zbn (ρ1:=[some (false,flr r c g),some (false,flr r c (un g (ovs hs)))]) rfl ?_ ih;simp [zc6 h1 hr hc,zfo]
 have e0:=e gs;rw [zhU,ybb] at e0;simp only [lays] at e0;have ho:=zc5 (r:=r) (c:=c) (gs:=gs) (S:=S) h1 (by omega) (by omega) hn;simp only [lays] at ho
 have hl:(zfG (psN r c) gs).length<=100000:=by
  have:∀gs:List Gf,(zfG (psN r c) gs).length=gs.length:=by
   intro gs;induction gs with
   | nil=>rfl
   | cons g gs ih=>simp [zfG,ih]
  rw [this];omega
 simp [zdW,zaw,zfu,ho,e0,hl,Function.comp_def]
end S2
namespace S2
open PySem
open L2 hiding D
noncomputable def zk6(g:Z1)(i j:Nat)(o:Option Int):Nat->Nat->Option Int:=fun a b=>if a=i/\b=j then o else g a b
def zn9{c j:Nat}{g:Nat->Option Int}{o:Option Int}:(zcH c g).set j (oD o)=zcH c fun b=>if b=j then o else g b:=by
 apply ybu;intro k
 by_cases hk:k<c
 ·rw [zc9 hk]
  by_cases e:j=k
  ·subst e;rw [yaA (by rw [zc8];exact hk),if_pos rfl]
  ·rw [yaP e,zc9 hk,if_neg (fun z=>e z.symm)]
 ·rw [yaV (by rw [yay,zc8];omega),yaV (by rw [zc8];omega)]
def zo1{r c i j:Nat}{g:Z1}{o:Option Int}:(zce r c g).set i (zbI c fun b=>if b=j then o else g i b)=zce r c (zk6 g i j o):=by
 apply ybu;intro k
 by_cases hk:k<r
 ·rw [zbF hk]
  by_cases e:i=k
  ·subst e;rw [yaA (by rw [zdg];exact hk)];congr 3;funext b;unfold zk6
   by_cases z:b=j<;>simp [z]
  ·rw [yaP e,zbF hk];congr 3;funext b;unfold zk6;rw [if_neg (fun z=>e z.1.symm)]
 ·rw [yaV (by rw [yay,zdg];omega),yaV (by rw [zdg];omega)]
def zkH{α:Type}{l:List α}{j:Nat}{x:α}(h:j<l.length):zdR l none (some (j:Int))++x::zdR l (some ((j:Int)+1)) none=l.set j x:=by
 rw [zrZ (by omega),show ((j:Int)+1)=((j+1:Nat):Int) by omega,zkI,List.set_eq_take_append_cons_drop,if_pos h]
def zcg{r c i j:Nat}{g:Z1}{o:Option Int}{S:Sto}(hi:i<r)(hj:j<c)(hr:r<=100)(hc:c<=100):za2 [flr r c g,plD i j,oD o] S=.ok (flr r c (zk6 g i j o)) S:=by
 have e0:atI (zce r c g) (i:Int)=some (zbI c (g i)):=by rw [zaW,zbF hi]
 have e1:zdR (zcH c (g i)) none (some (j:Int))++oD o::zdR (zcH c (g i)) (some ((j:Int)+1)) none=zcH c fun b=>if b=j then o else g i b:=by rw [zkH (by rw [zc8];exact hj),zn9]
 have e2:zdR (zce r c g) none (some (i:Int))++(zbI c fun b=>if b=j then o else g i b)::zdR (zce r c g) (some ((i:Int)+1)) none=zce r c (zk6 g i j o):=by rw [zkH (by rw [zdg];exact hi),zo1]
 have l1:=congrArg List.length e1;have l2:=congrArg List.length e2;rw [yaw,yaj,zc8] at l1;rw [yaw,yaj,zdg] at l2;unfold flr;rw [<-e2];unfold zbI at e0 ⊢;rw [<-e1];generalize q1:zdR (zcH c (g i)) none (some (j:Int))=a1 at *;generalize q2:zdR (zcH c (g i)) (some ((j:Int)+1)) none=a2 at *;generalize q3:zdR (zce r c g) none (some (i:Int))=b1 at *;generalize q4:zdR (zce r c g) (some ((i:Int)+1)) none=b2 at *
 have p1:a1.length+1<=100000:=by omega
 have p2:a1.length+1+a2.length<=100000:=by omega
 have p3:b1.length+1<=100000:=by omega
 have p4:b1.length+1+b2.length<=100000:=by omega
 simp [za2,zaw,zb2,plD,e0,q1,q2,q3,q4,p1,p2,p3,p4]
end S2
namespace S2
open PySem
open L2 hiding D
@[simp] def zxc{x y:Bool}:zsB (.bl x) (.bl y)=some (.bl (decide (x=y))):=(rfl)
def zgP{r c i j:Nat}{g:Z1}{S:Sto}(h1:1<=r)(hi:i<r)(hj:j<c):zaV [flr r c g,plD i j] S=.ok .non S:=by
 have hp:zbv [flr r c g,plD i j] S=.ok (.bl true) S:=by rw [ze9 h1];congr 3;simp;omega
 simp [zaV,zaw,zbd,hp]
noncomputable def znv(q m:Nat):Prop:=zlq q m+m*(zlq q m+q*zlq q m)<=1000000/\q ^ m<=80000
noncomputable instance{q m:Nat}:Decidable (znv q m):=by unfold znv;exact inferInstance
section
variable{ts:Z2}{r c:Nat}{g:Z1}
end
end S2
namespace S2
open PySem
open L2 hiding D
section
variable{ts:Z2}{r c:Nat}{g:Z1}
end
end S2
namespace S2
open PySem
open L2 hiding D
section
variable{ts:Z2}{r c:Nat}{g:Z1}
end
end S2
namespace S2
open PySem
open L2 hiding D
section
variable{n:Nat}{ts:Z2}{gr:Z4}{r c:Nat}{b:Bool}
end
end S2
namespace S2
open PySem
open L2 hiding D
section
variable{n:Nat}{ts:Z2}{gr:Z4}{r c:Nat}{b:Bool}
end
end S2
namespace S2
open PySem
open L2 hiding D
section
variable{ts:Z2}{gr:Z4}{c:Nat}
end
end S2
namespace S2
open PySem
open L2 hiding D
section
variable{n:Nat}{ts:Z2}{gr:Z4}{r c:Nat}{b:Bool}{S:Sto}
end
end S2
namespace S2
open PySem
open L2 hiding D
end S2
namespace S2
open PySem
open L2 hiding D
section
variable{ts:Z2}{r c:Nat}{g h:Z1}
def zd7{i j:Nat}{S:Sto}(h1:1<=r)(hi:i<r)(hj:j<c):zcj [flr r c g,plD i j] S=.ok (oD (g i j)) S:=by
 have e1:=zgP (g:=g) (S:=S) h1 hi hj;have e2:=zdq (g:=g) (S:=S) hi hj;generalize flr r c g=fg at *;generalize plD i j=pp at *;simp [zcj,zaw,zep,e1,e2]
end
end S2
namespace S2
open PySem
open L2 hiding D
noncomputable def swp(i j k m:Nat)(p:Nat×Nat):Nat×Nat:=if p=(k,m) then (i,j) else if p=(i,j) then (k,m) else p
noncomputable def zie(g:Z1)(i j k m:Nat):Nat->Nat->Option Int:=fun a b=>g (swp i j k m (a,b)).1 (swp i j k m (a,b)).2
def znx{g:Z1}{i j k m:Nat}:zk6 (zk6 g i j (g k m)) k m (g i j)=zie g i j k m:=by
 funext a b;unfold zk6 zie swp
 by_cases h1:a=k/\b=m
 ·rw [if_pos h1,if_pos (by rw [h1.1,h1.2])]
 ·rw [if_neg h1,if_neg (fun z=>h1 ⟨congrArg Prod.fst z,congrArg Prod.snd z⟩)]
  by_cases h2:a=i/\b=j
  ·rw [if_pos h2,if_pos (by rw [h2.1,h2.2])]
  ·rw [if_neg h2,if_neg (fun z=>h2 ⟨congrArg Prod.fst z,congrArg Prod.snd z⟩)]
def zc7{T:D}{r c i j k m:Nat}{g:Z1}{S:Sto}(h1:1<=r)(hr:r<=100)(hc:c<=100)(hi:i<r)(hj:j<c)(hk:k<r)(hm:m<c):za7 [T,flr r c g,plD i j,plD k m] S=.ok (flr r c (zie g i j k m)) S:=by
 have e1:=zd7 (g:=g) (S:=S) h1 hi hj;have e2:=zd7 (g:=g) (S:=S) h1 hk hm;have e3:=zcg (g:=g) (o:=g k m) (S:=S) hi hj hr hc;have e4:=zcg (g:=zk6 g i j (g k m)) (o:=g i j) (S:=S) hk hm hr hc;rw [znx] at e4;generalize flr r c g=F0 at *;generalize flr r c (zk6 g i j (g k m))=F1 at *;generalize flr r c (zie g i j k m)=F2 at *;generalize oD (g i j)=o1 at *;generalize oD (g k m)=o2 at *;generalize plD i j=p1 at *;generalize plD k m=p2 at *;simp [za7,zaw,zcU,e1,e2,e3,e4]
def zh5{r c:Nat}{g:Z1}{x:Int}:zcZ (zaP r c g) x=(psN r c).countP fun p=>decide (g p.1 p.2=some x):=by
 unfold zcZ zaP psN;rw [List.countP_flatMap,List.countP_flatMap];congr 2;funext i;show List.countP _ _=List.countP _ _;rw [List.countP_filterMap,List.countP_map];congr 1;funext j
 cases h:g i j with
 | none=>simp [h]
 | some y=>simp [h]
end S2
namespace S2
open PySem
open L2 hiding D
section
variable{ts:Z2}{r c:Nat}{g h:Z1}
end
end S2
namespace S2
open PySem
open L2 hiding D
section
variable{ts:Z2}{gr:Z4}{c:Nat}{b:Bool}{ft:List Int->Int->Bool}{SO:List Int->List (Option Int)->Prop}
end
section
variable{ts:Z2}{r c:Nat}{g:Z1}
end
end S2
namespace S2
open PySem
open L2 hiding D
theorem zna:∀(n:Nat) (ks:List Int),ks.Nodup->(∀k∈ks,0<=k/\k<(n:Int))->ks.length<=n
 | 0,ks,_,h=>by
  cases ks with
  | nil=>exact yal _
  | cons a l=>have:=h a (.head _);omega
 | n+1,ks,nd,h=>by
  have h2:=zna n (ks.erase (n:Int)) (nd.erase _) fun k hk=>by
   obtain ⟨hne,hm⟩:=nd.mem_erase_iff.mp hk;have:=h k hm;omega
  rw [List.length_erase] at h2
  split at h2<;>omega
def zmb{ps:List (Int×Int)}{k v:Int}:(zir ps k v).map (·.1)=if k∈ps.map (·.1) then ps.map (·.1) else ps.map (·.1)++[k]:=by
 have ha:(ps.any fun p=>decide (p.1=k))=decide (k∈ps.map (·.1)):=by
  rw [ybR,ycw,yaM,yaq];simp
 unfold zir;rw [ha]
 by_cases h:k∈ps.map (·.1)
 ·rw [if_pos (yaQ h),if_pos h,ybb];apply yb5;intro p _;show (if p.1=k then (p.1,v) else p).1=p.1
  split<;>rfl
 ·rw [if_neg (by simpa using h),if_neg h,ybD];rfl
def zee{ps:List (Int×Int)}{k:Int}:zbK ps k=none↔k ∉ ps.map (·.1):=by
 unfold zbK;rw [Option.map_eq_none_iff,List.find?_eq_none,yaq];constructor
 ·rintro h ⟨p,hp,e⟩;exact h p hp (yaQ e)
 ·intro h p hp e;exact h ⟨p,hp,yah e⟩
def zl5{ps:List (Int×Int)}{k v x:Int}:zbK (zir ps k v) x=if x=k then some v else zbK ps x:=by
 have ha:(ps.any fun p=>decide (p.1=k))=decide (k∈ps.map (·.1)):=by
  rw [ybR,ycw,yaM,yaq];simp
 unfold zir;rw [ha]
 by_cases h:k∈ps.map (·.1)
 ·rw [if_pos (yaQ h)];unfold zbK;rw [List.find?_map]
  have ec:((fun p:Int×Int=>decide (p.1=x))∘fun p:Int×Int=>if p.1=k then (p.1,v) else p)=fun p=>decide (p.1=x):=by
   funext p;show decide ((if p.1=k then (p.1,v) else p).1=x)=_
   split<;>rfl
  rw [ec]
  cases hf:ps.find? fun p=>decide (p.1=x) with
  | none =>
   have:x ∉ ps.map (·.1):=zee.mp (by unfold zbK;rw [hf];rfl);rw [if_neg (fun z:x=k=>this (by rw [z];exact h))];rfl
  | some p =>
   have hp:p.1=x:=by
    have:=List.find?_some hf;exact yah this
   show some (if p.1=k then (p.1,v) else p).2=if x=k then some v else some p.2
   by_cases e:x=k
   ·rw [if_pos (hp.trans e),if_pos e]
   ·rw [if_neg (fun z=>e (hp.symm.trans z)),if_neg e]
 ·rw [if_neg (by simpa using h)];unfold zbK;rw [List.find?_append]
  by_cases e:x=k
  ·have hn:=zee.mpr h;unfold zbK at hn;rw [Option.map_eq_none_iff] at hn;rw [e,hn,if_pos rfl];simp
  ·rw [if_neg e]
   have:[(k,v)].find? (fun p:Int×Int=>decide (p.1=x))=none:=by
    rw [List.find?_cons_of_neg (by simpa using fun z=>e z.symm)];rfl
   rw [this,Option.or_none]
noncomputable def cf(N:Int->Nat)(x:Int):Option Int:=if N x=0 then none else some (N x:Int)
structure Bk(ps:List (Int×Int))(N:Int->Nat):Prop where
 nd:(ps.map (·.1)).Nodup
 at':∀x,zbK ps x=cf N x
 sm:∀x,N x≠0->0<=x/\x<5
def Bk.mem{ps:List (Int×Int)}{N:Int->Nat}(b:Bk ps N){x:Int}:x∈ps.map (·.1)↔N x≠0:=by
 have h:=zee (ps:=ps) (k:=x);rw [b.at',cf] at h
 by_cases e:N x=0
 ·rw [if_pos e] at h;exact ⟨fun z=>absurd z (h.mp rfl),fun z=>absurd e z⟩
 ·rw [if_neg e] at h;exact ⟨fun _=>e,fun _=>Classical.byContradiction fun z=>nomatch h.mpr z⟩
def Bk.len{ps:List (Int×Int)}{N:Int->Nat}(b:Bk ps N):ps.length<=5:=by
 have:=zna 5 (ps.map (·.1)) b.nd fun k hk=>b.sm k (b.mem.mp hk)
 rwa [yaf] at this
theorem Bk.nil:Bk [] fun _=>0:=⟨.nil,fun _=>rfl,fun _ h=>absurd rfl h⟩
def Bk.get{ps:List (Int×Int)}{N:Int->Nat}(b:Bk ps N){k:Int}:((zbK ps k).map D.int).getD (.int 0)=.int (N k:Int):=by
 rw [b.at',cf];split
 ·rename_i h;rw [h];rfl
 ·rfl
def Bk.put{ps:List (Int×Int)}{N:Int->Nat}(b:Bk ps N){k:Int}{m:Nat}(hm:0<m)(hk:0<=k/\k<5):Bk (zir ps k ((N k:Int)+(m:Int))) fun x=>N x+if x=k then m else 0:=by
 refine ⟨?_,fun x=>?_,fun x hx=>?_⟩
 ·rw [zmb];split
  ·exact b.nd
  ·rename_i h;rw [yc0];exact ⟨b.nd,by simp,fun a ha c hc=>by rw [yaU] at hc;subst hc;exact fun z=>h (z ▸ ha)⟩
 ·rw [zl5,b.at',cf,cf]
  by_cases e:x=k
  ·subst e;rw [if_pos rfl,if_pos rfl,if_neg (show ¬ N x+m=0 by omega)];rfl
  ·rw [if_neg e,if_neg e];rfl
 ·by_cases e:x=k
  ·rw [e];exact hk
  ·rw [if_neg e] at hx;exact b.sm x hx
def Bk.congr{ps:List (Int×Int)}{N M:Int->Nat}(b:Bk ps N)(h:∀x,N x=M x):Bk ps M:=by rw [<-funext h];exact b
def zev{l:List Int}{x:Int}:x∈l↔zcZ l x≠0:=by
 unfold zcZ;rw [Ne,List.countP_eq_zero];constructor
 ·intro hx z;exact z x hx (yaQ rfl)
 ·intro z
  by_cases hx:x∈l
  ·exact hx
  ·refine absurd (fun y hy e=>hx ?_) z;have e':y=x:=yah e;exact e' ▸ hy
def ziE{p:Int->Bool}(h5:p 5=false)(h6:p 6=false)(h7:p 7=false):ST.zfw.filter p=(ST.zcN.filter fun n:Nat=>p n).map fun n:Nat=>(n:Int):=by
 have e:ST.zfw=(ST.zcN.map fun n:Nat=>(n:Int))++[5,6,7]:=by decide
 rw [e,List.filter_append,List.filter_map]
 have e2:[5,6,7].filter p=[]:=by rw [yb3,h5,yb3,h6,yb3,h7];rfl
 rw [e2,yaK];rfl
def Bk.srt{ps:List (Int×Int)}{ns:List Int}(b:Bk ps (zcZ ns)):zpz ps=some (zez ns):=by
 have hs:∀x∈ns,0<=x/\x<5:=fun x hx=>b.sm x (zev.mp hx)
 unfold zpz;rw [if_pos]
 ·unfold zez ST.zad;rw [ziE (yaH fun z=>by have:=hs _ z;omega) (yaH fun z=>by have:=hs _ z;omega) (yaH fun z=>by have:=hs _ z;omega),ybb]
  have ef:(ST.zcN.filter fun n:Nat=>decide ((n:Int)∈ps.map (·.1)))=ST.zcN.filter fun n:Nat=>decide ((n:Int)∈ns):=by
   apply List.filter_congr;intro n _;rw [yb4,b.mem,zev]
  rw [ef];congr 1;apply yb5;intro n hn;have hm:(n:Int)∈ns:=yah (ybc.mp hn).2;show prI (n,_)=.tup [.int (n:Int),.int (zcZ ns n:Nat)];rw [b.at',cf,if_neg (zev.mp hm)];rfl
 ·rw [yab,yab,ybf];refine ⟨⟨fun p hp=>yaQ (b.sm _ (b.mem.mp (yaq.mpr ⟨p,hp,rfl⟩))),yaQ b.nd⟩,yaQ b.len⟩
end S2
namespace S2
open PySem
open L2 hiding D
noncomputable def sm(n:Nat)(f:Nat->Nat):Nat:=((List.range n).map f).sum
end S2
namespace S2
open PySem
open L2 hiding D
theorem zgi{tg:Tg}{body:Fs}{S:Sto}{α:Type}(emb:α->D){I:List α->Env->Prop}(L:List α)(step:∀q a r ρ,q++a::r=L->I q ρ->∃ρ1 ρ2,tg.put ρ (emb a)=some ρ1/\body ρ1 S=.nx ρ2 S/\I (q++[a]) ρ2):∀(xs pre:List α) (ρ:Env),pre++xs=L->I pre ρ->∃ρ',zd1 tg body (xs.map emb) ρ S=.nx ρ' S/\I L ρ'
 | [],pre,ρ,hL,h=>⟨ρ,by simp [zd1],by rw [<-hL,yaK];exact h⟩
 | a::xs,pre,ρ,hL,h=>by
  obtain ⟨ρ1,ρ2,e1,e2,h2⟩:=step pre a xs ρ hL h;obtain ⟨ρ',e3,h3⟩:=zgi emb L step xs (pre++[a]) ρ2 (by rw [ycn];exact hL) h2;refine ⟨ρ',?_,h3⟩;rw [yau];unfold zd1;rw [e1];dsimp only;rw [e2];exact e3
def zhV{tg:Tg}{body:Fs}{S:Sto}{α:Type}(emb:α->D){I:List α->Env->Prop}(L:List α){ρ:Env}(h0:I [] ρ)(step:∀q a r ρ,q++a::r=L->I q ρ->∃ρ1 ρ2,tg.put ρ (emb a)=some ρ1/\body ρ1 S=.nx ρ2 S/\I (q++[a]) ρ2):∃ρ',zd1 tg body (L.map emb) ρ S=.nx ρ' S/\I L ρ':=zgi emb L step L [] ρ rfl h0
end S2
namespace S2.L72
open PySem
open L2 hiding D
noncomputable def zey:Fs :=
  (zan (sFz [] (sIf (zhb (zai neD (zai ixD (zai ixD (zaj 5) (zaj 14)) (zaj 15)) (zaj 10)) (zai neD (zai ixD (zai ixD (zaj 11) (zaj 14)) (zaj 15)) (zai ixD (zai ixD (zaj 5) (zaj 14)) (zaj 15)))) (zan (sFz [] (zbh (zal (.bl false)))) sNx) sNx)) sNx)
noncomputable def zfD:Fs :=
  (zan (sFz [12] (zgL 17 (zac 12) (zai zbU (zgo 17 (zac 12) (zal (.int 0))) (zaj 13)))) sNx)
noncomputable def zfC:Fs :=
  (zan (sFz [9] (zgN (.tup [12,13]) (zaz (eFn zdr [(zac 9)])) zfD)) sNx)
noncomputable def zeY:Fs:=zan (sFz [5] (zbh (zai eqD (eFn zdr [(zac 5)]) (zpC 17)))) sNx
noncomputable def zhq:Fs:=zan (sFz [4] (zgN (.one 9) (zaz (eFn zbu [(zac 4)])) zfC)) zeY
noncomputable def zeZ:Fs:=zan (sFz [] (zcc 17 true zmt)) zhq
noncomputable def zhr:Fs:=zan (sFz [5,4] (sIf (zai neD (zaj 16) (zai zbU (zar zc2 [(eFn zah [(zac 5)])]) (zar zpx [(eFn zdW [(zac 4)])]))) (zan (sFz [] (zbh (zal (.bl false)))) sNx) sNx)) zeZ
noncomputable def ze0:Fs:=zan (sFz [4] (zcc 16 false (zar zpx [(zbj 1 (.one 0) (zaz (zac 4)) zbT (zar zc2 [(eFn zah [(zac 0)])]) [])]))) zhr
noncomputable def ze1:Fs:=zan (sFz [5] (zgN (.tup [14,15]) (zaz (eFn zah [(zac 5)])) zey)) ze0
noncomputable def zgE:Fs:=zan (sFz [11] (sIf (zai inD (zaj 10) (zbj 2 (.tup [0,1]) (zaz (eFn zdr [(zac 11)])) zbT (zac 0) [])) (zan (sFz [] (zbh (zal (.bl false)))) sNx) sNx)) ze1
noncomputable def zgF:Fs:=zan (sFz [4,10,1] (zcc 11 false (eFn zda [(zbj 1 (.one 0) (zaz (zac 4)) zbT (eFn zbR [(zac 2),(zac 0),(zac 1),(zal .non)]) [10,1])]))) zgE
noncomputable def zi1:Fs:=zan (sFz [0] (zcc 10 false (eFn zak [(zac 0),(zal (.int 6)),(zar zc2 [(zaj 1)])]))) zgF
noncomputable def zgG:Fs:=zan (sFz [4,7,8,1,1,5,7,8] (sIf (zai neD (eFn zda [(zbj 1 (.one 0) (zaz (zac 4)) zbT (eFn za7 [(zac 3),(zac 0),(zac 1),(zac 2)]) [7,8,1])]) (eFn za7 [(zac 1),(zac 5),(zac 7),(zac 8)])) (zan (sFz [] (zbh (zal (.bl false)))) sNx) sNx)) zi1
noncomputable def zi2:Fs:=zan (sFz [0,0] (ze5 (.tup [7,8]) (zg9 [(zai ixD (zaj 6) (eFn zak [(zac 0),(zal (.int 4)),(zar zc2 [(zaj 6)])])),(zai ixD (zaj 6) (eFn zak [(zac 0),(zal (.int 5)),(zar zc2 [(zaj 6)])]))]))) zgG
noncomputable def zgH:Fs:=zan (sFz [4] (zqz 5 6 false (eFn zda [(zac 4)]) true (eFn zbt [(zai ixD (zaj 4) (zal (.int 0)))]))) zi2
noncomputable def zi3:Fs:=zan (sFz [0,3,2,0,1] (zcc 4 true (zbj 1 (.one 0) (zdQ (zai zbU (zal (.int 1)) (eFn zak [(zac 0),(zal (.int 3)),(zal (.int 3))]))) zbT (eFn za0 [(zac 3),(zai zbU (zal (.int 300)) (zai zgW (zal (.int 100)) (zaj 0))),(zac 4),(zac 2),(zac 1),(zal (.int 3))]) [3,2,0,1]))) zgH
noncomputable def zi4:Fs:=zan (sFz [0,0] (ze5 (.tup [2,3]) (zg9 [(zai zbU (zal (.int 1)) (eFn zak [(zac 0),(zal (.int 1)),(zal (.int 4))])),(zai zbU (zal (.int 1)) (eFn zak [(zac 0),(zal (.int 2)),(zal (.int 4))]))]))) zi3
noncomputable def zi5:Fs:=zan (sFz [0] (zcc 1 false (eFn zbD [(zac 0),(zal (.int 200)),(zal (.int 4))]))) zi4
noncomputable def zo4:Fs :=
  zi5
noncomputable def zqJ:List S2.D->Sto->Out S2.D:=zbW 18 false zo4
end S2.L72
namespace S2.L72
open PySem
open L2 hiding D
noncomputable abbrev Sl:=Option (Bool×S2.D)
theorem zm6{f:Nat->Nat->Nat×Nat}:∀{gs:List Gf},ovs (gs.map fun g=>fun a b=>g (f a b).1 (f a b).2)=fun a b=>ovs gs (f a b).1 (f a b).2
 | []=>rfl
 | g::gs=>by
  rw [yau];show ov _ (ovs (gs.map _))=_;rw [zm6];rfl
def zos{i j k m:Nat}{gs:List Gf}:ovs (gs.map fun g=>zie g i j k m)=zie (ovs gs) i j k m:=zm6 (f:=fun a b=>swp i j k m (a,b))
theorem zjP{P:Int->Prop}:∀{gs:List Gf},(∀g∈gs,∀i j x,g i j=some x->P x)->∀i j x,ovs gs i j=some x->P x
 | [],_,i,j,x,h=>by cases h
 | g::gs,hg,i,j,x,h=>by
  have h':(ovs gs i j).or (g i j)=some x:=h
  cases hw:ovs gs i j with
  | none=>rw [hw] at h';exact hg g (.head _) i j x h'
  | some y=>rw [hw] at h';cases h';exact zjP (fun g' hm=>hg g' (.tail _ hm)) i j _ hw
theorem zhK{P:Int->Prop}:∀{gs:List Gf},(∀g∈gs,∀i j x,g i j=some x->P x)->∀g∈zdO gs,∀i j x,g i j=some x->P x
 | [],_,g,h=>by cases h
 | g0::gs,hg,g,h=>by
  rcases yap.mp h with rfl | h
  ·intro i j x e;have e':(if (ovs gs i j).isSome then none else g0 i j)=some x:=e;split at e'
   ·cases e'
   ·exact hg g0 (.head _) i j x e'
  ·exact zhK (fun g' hm=>hg g' (.tail _ hm)) g h
theorem zhH{n:Int}{i j:Nat}:∀{gs:List Gf},ovs gs i j=none->ovs (gs.map fun g=>repG g (some n) none) i j=none
 | [],_=>rfl
 | g::gs,h=>by
  have h':(ovs gs i j).or (g i j)=none:=h;show (ovs (gs.map _) i j).or (repG g (some n) none i j)=none
  cases hw:ovs gs i j with
  | none =>
   rw [hw] at h';rw [zhH hw];show rep (some n) none (g i j)=none;rw [show g i j=none from h'];rfl
  | some y=>rw [hw] at h';cases h'
theorem zhI{n x:Int}{i j:Nat}(hx:x≠n):∀{gs:List Gf},ovs gs i j=some x->ovs (gs.map fun g=>repG g (some n) none) i j=some x
 | [],h=>by cases h
 | g::gs,h=>by
  have h':(ovs gs i j).or (g i j)=some x:=h;show (ovs (gs.map _) i j).or (repG g (some n) none i j)=some x
  cases hw:ovs gs i j with
  | none =>
   rw [hw] at h';rw [zhH hw];show rep (some n) none (g i j)=some x;rw [show g i j=some x from h'];unfold rep;rw [if_neg (fun z=>hx (Option.some.inj z))]
  | some y =>
   rw [hw] at h';cases h';rw [zhI hx hw];rfl
def zoa{n:Int}{g:Gf}{i j:Nat}{x:Int}(h:repG g (some n) none i j=some x):x≠n/\g i j=some x:=by
 have h':(if g i j=some n then none else g i j)=some x:=h;split at h'
 ·cases h'
 ·rename_i e;exact ⟨fun z=>e (z ▸ h'),h'⟩
theorem zeS{r c:Nat}{x:Int}:∀{gs:List Gf},((zdO gs).map fun o=>zcZ (zaP r c o) x).sum=zcZ (zaP r c (ovs gs)) x
 | []=>by
  rw [zh5];show 0=_;symm;rw [List.countP_eq_zero];intro p _ h;cases yah h
 | g::gs=>by
  show zcZ (zaP r c (un g (ovs gs))) x+((zdO gs).map fun o=>zcZ (zaP r c o) x).sum=zcZ (zaP r c (ov g (ovs gs))) x;rw [zeS,zh5,zh5,zh5]
  have:=zeu (P:=psN r c) (p:=fun i j=>decide (ov g (ovs gs) i j=some x)) (q:=fun i j=>decide (un g (ovs gs) i j=some x)) (s:=fun i j=>decide (ovs gs i j=some x)) (fun i j=>by
   unfold ov un
   cases h:ovs gs i j with
   | none=>simp;rfl
   | some y=>simp)
  unfold cnt at this;exact this.symm
theorem zhR{P:List (Nat×Nat)}:∀{gs:List Gf},(gs.map fun g=>cnt P (lay g)).sum=cnt P (lay (ovs gs))+(zfG P gs).sum
 | []=>by unfold cnt;simp [lay,ovs,zfG]
 | g::hs=>by
  have h1:=zkO (P:=P) (g:=g) (w:=ovs hs);have h2:=zr1 (P:=P) (g:=g) (w:=ovs hs);have ih:=zhR (P:=P) (gs:=hs);show cnt P (lay g)+(hs.map fun g=>cnt P (lay g)).sum=cnt P (lay (ov g (ovs hs)))+(cnt P (cov g (ovs hs))+(zfG P hs).sum);omega
theorem zj0{P:List (Nat×Nat)}:∀{gs:List Gf},∀n∈zfG P gs,n<=P.length
 | [],n,h=>by cases h
 | g::hs,n,h=>by
  rcases yap.mp h with rfl | h
  ·exact zkN
  ·exact zj0 n h
theorem zfn{P:List (Nat×Nat)}:∀{gs:List Gf},(zfG P gs).length=gs.length
 | []=>rfl
 | g::hs=>by show (zfG P hs).length+1=hs.length+1;rw [zfn]
def zhv{l:List Nat}(hl:l.length<=1000)(hb:∀n∈l,n<=1000000):zpx [.lst (l.map fun n:Nat=>D.int n)]=some (.int (l.sum:Nat)):=by
 have ei:l.map (fun n:Nat=>D.int n)=(l.map fun n:Nat=>(n:Int)).map D.int:=by rw [ybb];rfl
 have es:∀l:List Nat,(l.map fun n:Nat=>(n:Int)).sum=((l.sum:Nat):Int):=by
  intro l
  induction l with
  | nil=>rfl
  | cons a l ih=>rw [yau,List.sum_cons,List.sum_cons,ih,Int.natCast_add]
 show (zbS _).bind _=_;rw [ei,zg3];show (if _ then _ else _)=_;rw [if_pos,es];rw [yab,yaM,ybf];refine ⟨by rw [yaf];exact hl,?_⟩;intro x hx;obtain ⟨k,hk,rfl⟩:=yaq.mp hx;have:=hb k hk;rw [yaM];omega
def zrX{ns:List Int}:eqD (.lst (zez ns)) (.lst (zez ns))=some (.bl true):=by
 refine zo8 ?_ ?_
 ·show D.pls (zez ns)=true;rw [D.pls_iff];intro d hd;obtain ⟨k,_,rfl⟩:=yaq.mp hd;rfl
 ·show D.fits 8 (zez ns)=true;rw [D.fits_iff];intro d hd;obtain ⟨k,_,rfl⟩:=yaq.mp hd;rfl
def znB{ns:List Int}:(zez ns).length<=100000:=by unfold zez;rw [yaf];exact yao ST.zaA (by decide)
def zmE{ns:List Int}:(ST.zad ns).Nodup:=by
 have:ST.zfw.Nodup:=by decide
 exact this.filter _
def zxG{ρ:Env}{S:Sto}{x:Int}{m:Nat}{ps:List (Int×Int)}{N:Int->Nat}(b:Bk ps N)(hi:ρ[17]?=some (some (true,zcY ps)))(hk:ρ[12]?=some (some (false,.int x)))(hm:ρ[13]?=some (some (false,.int (m:Int)))) :
  zgL 17 (zac 12) (zai zbU (zgo 17 (zac 12) (zal (.int 0))) (zaj 13)) ρ S=.nx (ρ.set 17 (some (true,zcY (zir ps x ((N x:Int)+(m:Int)))))) S:=by
 have e1:=zrQ (S:=S) (f:=zac 12) (g:=zal (.int 0)) (j:=x) (z:=.int 0) (S1:=S) (S2:=S) hi (by simp [hk]) (by simp);rw [b.get] at e1;exact zqN (S1:=S) hi (by simp [e1,hm]) (by simp [hk]) (yao b.len (by decide))
variable{r c:Nat}{ts:Z2}{S:Sto}
def ztR{s0 s1 s2 s3 s4 s5 s6 s7 s8 s9 s10 s11 s12 s13 s14 s15 s16:Sl}{N0:Int->Nat}{ns:List Int}{ps:List (Int×Int)}(b:Bk ps N0)(hn:∀x∈ns,0<=x/\x<5) :
  ∃ps' y12 y13,Bk ps' (fun x=>N0 x+zcZ ns x)/\zd1 (.tup [12,13]) zfD (zez ns) [s0,s1,s2,s3,s4,s5,s6,s7,s8,s9,s10,s11,s12,s13,s14,s15,s16,some (true,zcY ps)] S=.nx [s0,s1,s2,s3,s4,s5,s6,s7,s8,s9,s10,s11,y12,y13,s14,s15,s16,some (true,zcY ps')] S:=by
 obtain ⟨ρ',e,ps',y12,y13,b',rfl⟩:=zhV (tg:=.tup [12,13]) (body:=zfD) (S:=S) (fun k=>D.tup [.int k,.int (zcZ ns k:Nat)]) (I:=fun q ρ=>∃ps y12 y13,Bk ps (fun x=>N0 x+if x∈q then zcZ ns x else 0)/\ρ=[s0,s1,s2,s3,s4,s5,s6,s7,s8,s9,s10,s11,y12,y13,s14,s15,s16,some (true,zcY ps)]) (ST.zad ns) (ρ:=[s0,s1,s2,s3,s4,s5,s6,s7,s8,s9,s10,s11,s12,s13,s14,s15,s16,some (true,zcY ps)]) ⟨ps,s12,s13,b.congr fun x=>by simp,rfl⟩
  (by
   rintro q k zbq ρ hq ⟨ps,y12,y13,b,rfl⟩;have nd:=zmE (ns:=ns);rw [<-hq,yc0] at nd;have hkq:k ∉ q:=fun z=>nd.2.2 k z k (.head _) rfl
   have hk:k∈ns:=by
    have:k∈ST.zad ns:=hq ▸ yaC _ (.head _);exact yah (ybc.mp this).2
   have hpos:0<zcZ ns k:=Nat.pos_of_ne_zero (zev.mp hk)
   have b2:=(b.put (k:=k) (m:=zcZ ns k) hpos (hn k hk)).congr (M:=fun x=>N0 x+if x∈q++[k] then zcZ ns x else 0) (fun y=>by
    show N0 y+(if y∈q then zcZ ns y else 0)+(if y=k then zcZ ns k else 0)=N0 y+if y∈q++[k] then zcZ ns y else 0
    by_cases e:y=k
    ·subst e;rw [if_neg hkq,if_pos rfl,if_pos (by simp),Nat.add_zero]
    ·rw [if_neg e,Nat.add_zero];congr 1
     by_cases h:y∈q
     ·rw [if_pos h,if_pos (by simp [h])]
     ·rw [if_neg h,if_neg (by simp [h,e])])
   have ep:=zxG (S:=S) (x:=k) (m:=zcZ ns k) (ρ:=[s0,s1,s2,s3,s4,s5,s6,s7,s8,s9,s10,s11,some (false,.int k),some (false,.int (zcZ ns k:Nat)),s14,s15,s16,some (true,zcY ps)]) b rfl rfl rfl;refine ⟨_,_,rfl,?_,_,some (false,.int k),some (false,.int (zcZ ns k:Nat)),b2,rfl⟩;generalize zcY (zir ps k (((N0 k+if k∈q then zcZ ns k else 0:Nat):Int)+((zcZ ns k:Nat):Int)))=dp2 at *;generalize zcY ps=dp at *
   simp [zfD,ep])
 refine ⟨ps',y12,y13,b'.congr fun x=>?_,e⟩;congr 1
 by_cases h:x∈ST.zad ns
 ·rw [if_pos h]
 ·rw [if_neg h];symm;apply Classical.byContradiction;intro z;have hx:=zev.mpr z;have:=hn x hx;exact h (ybc.mpr ⟨ST.zgb.mpr (by omega),yaQ hx⟩)
def ztQ{s0 s1 s2 s3 s4 s5 s6 s7 s8 s9 s10 s11 s12 s13 s14 s15 s16:Sl}{os:List Gf}(r1:1<=r)(hr:r<=100)(hc:c<=100)(ho:∀g∈os,∀i j x,g i j=some x->0<=x/\x<5) :
  ∃ps' y9 y12 y13,Bk ps' (fun x=>(os.map fun o=>zcZ (zaP r c o) x).sum)/\zd1 (.one 9) zfC (lays r c os) [s0,s1,s2,s3,s4,s5,s6,s7,s8,s9,s10,s11,s12,s13,s14,s15,s16,some (true,zcY [])] S=.nx [s0,s1,s2,s3,s4,s5,s6,s7,s8,y9,s10,s11,y12,y13,s14,s15,s16,some (true,zcY ps')] S:=by
 obtain ⟨ρ',e,ps',y9,y12,y13,b',rfl⟩:=zhV (tg:=.one 9) (body:=zfC) (S:=S) (flr r c) (I:=fun q ρ=>∃ps y9 y12 y13,Bk ps (fun x=>(q.map fun o=>zcZ (zaP r c o) x).sum)/\ρ=[s0,s1,s2,s3,s4,s5,s6,s7,s8,y9,s10,s11,y12,y13,s14,s15,s16,some (true,zcY ps)]) os (ρ:=[s0,s1,s2,s3,s4,s5,s6,s7,s8,s9,s10,s11,s12,s13,s14,s15,s16,some (true,zcY [])]) ⟨[],s9,s12,s13,Bk.nil,rfl⟩
  (by
   rintro q o zbq ρ hq ⟨ps,y9,y12,y13,b,rfl⟩;have hg:=ho o (hq ▸ yaC _ (.head _));have et:=zd8 (g:=o) (S:=S) r1 hr hc (fun i j x e=>by have:=hg i j x e;omega);obtain ⟨ps',z12,z13,b2,el⟩:=ztR (s0:=s0) (s1:=s1) (s2:=s2) (s3:=s3) (s4:=s4) (s5:=s5) (s6:=s6) (s7:=s7) (s8:=s8) (s9:=some (false,flr r c o)) (s10:=s10) (s11:=s11) (s12:=y12) (s13:=y13) (s14:=s14) (s15:=s15) (s16:=s16) (ns:=zaP r c o) (S:=S) b (fun x hx=>by obtain ⟨i,j,_,_,e⟩:=zfk.mp hx;exact hg i j x e);refine ⟨_,_,rfl,?_,ps',some (false,flr r c o),z12,z13,b2.congr (fun x=>by rw [ybD,List.sum_append];simp),rfl⟩;generalize zez (zaP r c o)=TL at *;generalize flr r c o=F at *;generalize zcY ps'=dp2 at *;generalize zcY ps=dp at *
   simp [zfC,et,el])
 exact ⟨ps',y9,y12,y13,b',e⟩
def zpP{s0 s1 s2 s3 s4 s6 s7 s8 s9 s10 s11 s12 s13 s14 s15 s16:Sl}{gs:List Gf}{ps:List (Int×Int)}(r1:1<=r)(hr:r<=100)(hc:c<=100)(hg:∀g∈gs,∀i j x,g i j=some x->0<=x/\x<5)(b:Bk ps (zcZ (zaP r c (ovs gs)))) :
  zeY [s0,s1,s2,s3,s4,some (false,flr r c (ovs gs)),s6,s7,s8,s9,s10,s11,s12,s13,s14,s15,s16,some (true,zcY ps)] S=.rt (.bl true) S:=by
 have hw:=zjP hg;have et:=zd8 (g:=ovs gs) (S:=S) r1 hr hc (fun i j x e=>by have:=hw i j x e;omega);have i1:=fun (ρ:Env) (hi:ρ[17]?=some (some (true,zcY ps)))=>zt7 (S:=S) hi b.srt
 have e1:=zrX (ns:=zaP r c (ovs gs));generalize zez (zaP r c (ovs gs))=TL at *;generalize zcY ps=dp at *;generalize flr r c (ovs gs)=F at *;simp [zeY,et,i1,e1]
def zpQ{s0 s1 s2 s3 s6 s7 s8 s9 s10 s11 s12 s13 s14 s15 s16 s17:Sl}{gs:List Gf}(r1:1<=r)(hr:r<=100)(hc:c<=100)(hn:gs.length<=100)(hg:∀g∈gs,∀i j x,g i j=some x->0<=x/\x<5) :
  zeZ [s0,s1,s2,s3,some (false,.lst (lays r c gs)),some (false,flr r c (ovs gs)),s6,s7,s8,s9,s10,s11,s12,s13,s14,s15,s16,s17] S=.rt (.bl true) S:=by
 obtain ⟨ps,y9,y12,y13,b,el⟩:=ztQ (s0:=s0) (s1:=s1) (s2:=s2) (s3:=s3) (s4:=some (false,.lst (lays r c gs))) (s5:=some (false,flr r c (ovs gs))) (s6:=s6) (s7:=s7) (s8:=s8) (s9:=s9) (s10:=s10) (s11:=s11) (s12:=s12) (s13:=s13) (s14:=s14) (s15:=s15) (s16:=s16) (S:=S) r1 hr hc (zhK hg);have t15:=zpP (s0:=s0) (s1:=s1) (s2:=s2) (s3:=s3) (s4:=some (false,.lst (lays r c gs))) (s6:=s6) (s7:=s7) (s8:=s8) (s9:=y9) (s10:=s10) (s11:=s11) (s12:=y12) (s13:=y13) (s14:=s14) (s15:=s15) (s16:=s16) (S:=S) r1 hr hc hg (b.congr fun x=>zeS);have eo:=zc5 (gs:=gs) (S:=S) r1 (show r<=1000 by omega) (show c<=1000 by omega) hn
 have hl:(lays r c (zdO gs)).length<=100000:=by simp [lays,zeb];omega
 generalize lays r c gs=Y at *;generalize lays r c (zdO gs)=Y2 at *;generalize flr r c (ovs gs)=F at *;generalize zcY ps=dp at *;simp [zeZ,zhq,eo,el,t15,hl]
def zpR{s0 s1 s2 s3 s6 s7 s8 s9 s10 s11 s12 s13 s14 s15 s16 s17:Sl}{gs:List Gf}(r1:1<=r)(hr:r<=100)(hc:c<=100)(hn:gs.length<=100)(hg:∀g∈gs,∀i j x,g i j=some x->0<=x/\x<5) :
  ze0 [s0,s1,s2,s3,some (false,.lst (lays r c gs)),some (false,flr r c (ovs gs)),s6,s7,s8,s9,s10,s11,s12,s13,s14,s15,s16,s17] S=.rt (.bl true) S:=by
 have t13:=fun s16=>zpQ (s0:=s0) (s1:=s1) (s2:=s2) (s3:=s3) (s6:=s6) (s7:=s7) (s8:=s8) (s9:=s9) (s10:=s10) (s11:=s11) (s12:=s12) (s13:=s13) (s14:=s14) (s15:=s15) (s16:=s16) (s17:=s17) (S:=S) r1 hr hc hn hg
 have hz:(psN r c).length<=10000:=by rw [zoh];exact ybr hr hc
 have ec:zaH (.one 0) zbT (zar zc2 [(eFn zah [(zac 0)])]) [none] (lays r c gs) S=.ok ((gs.map fun g=>cnt (psN r c) (lay g)).map fun (n:Nat)=>D.int n) S:=by
  have:∀hs:List Gf,zaH (.one 0) zbT (zar zc2 [(eFn zah [(zac 0)])]) [none] (lays r c hs) S=.ok ((hs.map fun g=>cnt (psN r c) (lay g)).map fun (n:Nat)=>D.int n) S:=by
   intro hs
   induction hs with
   | nil=>rfl
   | cons g hs ih =>
    refine zbn (ρ1:=[some (false,flr r c g)]) rfl ?_ ih;simp [zc6 r1 hr hc,zfo]
  exact this _
 have es:=zhv (l:=gs.map fun g=>cnt (psN r c) (lay g)) (by rw [yaf];omega) (fun n hm=>by
  obtain ⟨g,_,rfl⟩:=yaq.mp hm;have:=zkN (P:=psN r c) (p:=lay g)
  omega)
 have eh:=ziq (gs:=gs) (S:=S) r1 hr hc hn;have es2:=zhv (l:=zfG (psN r c) gs) (by rw [zfn];omega) (fun n hm=>by have:=zj0 n hm;omega);have ld:=zc6 (r:=r) (c:=c) (g:=ovs gs) (S:=S) r1 hr hc;have lc:=zfo (r:=r) (c:=c) (g:=ovs gs)
 have hll:((zbX r c).filter (zcn (ovs gs))).length<=100000:=by rw [lc];have:=zkN (P:=psN r c) (p:=lay (ovs gs));omega
 have n1:neD (.int ((((gs.map fun g=>cnt (psN r c) (lay g)).sum:Nat):Int))) (.int ((((zbX r c).filter (zcn (ovs gs))).length:Int)+((zfG (psN r c) gs).sum:Nat)))=some (.bl false):=by
  have:=zhR (P:=psN r c) (gs:=gs);rw [lc,this,Int.natCast_add];exact zfm rfl rfl
 have hl:((gs.map fun g=>cnt (psN r c) (lay g)).map fun (n:Nat)=>D.int n).length<=100000:=by simp;omega
 have hl2:((zfG (psN r c) gs).map fun (n:Nat)=>D.int n).length<=100000:=by rw [yaf,zfn];omega
 have hl3:(lays r c gs).length<=100000:=by simp [lays];omega
 generalize ((gs.map fun g=>cnt (psN r c) (lay g)).sum:Nat)=A at *;generalize ((gs.map fun g=>cnt (psN r c) (lay g)).map fun (n:Nat)=>D.int n)=L1 at *;generalize ((zfG (psN r c) gs).map fun (n:Nat)=>D.int n)=L2 at *;generalize (zfG (psN r c) gs).sum=B at *;generalize (zbX r c).filter (zcn (ovs gs))=PL at *;generalize lays r c gs=Y at *;generalize flr r c (ovs gs)=F at *;simp [ze0,ec,es,zhr,eh,es2,ld,n1,hl,hl2,hl3,hll,t13]
def zuq{s0 s1 s2 s3 s4 s6 s7 s8 s9 s12 s13 s16 s17:Sl}{w v:Gf}{n:Int}{a b:Nat}(ha:a<r)(hb:b<c)(hv:∀x,w a b=some x->x≠n->v a b=some x)(hl:(w a b).isSome) :
  zey [s0,s1,s2,s3,s4,some (false,flr r c w),s6,s7,s8,s9,some (false,.int n),some (false,flr r c v),s12,s13,some (false,.int a),some (false,.int b),s16,s17] S=.nx [s0,s1,s2,s3,s4,some (false,flr r c w),s6,s7,s8,s9,some (false,.int n),some (false,flr r c v),s12,s13,some (false,.int a),some (false,.int b),s16,s17] S:=by
 have a1:=zbF (c:=c) (g:=w) ha;have a2:=zc9 (g:=w a) hb;have b1:=zbF (c:=c) (g:=v) ha;have b2:=zc9 (g:=v a) hb
 have f1:ixD (flr r c w) (.int a)=some (zbI c (w a)):=by show atI _ _=_;rw [zaW,a1]
 have f2:ixD (zbI c (w a)) (.int b)=some (oD (w a b)):=by show atI _ _=_;rw [zaW,a2]
 have f3:ixD (flr r c v) (.int a)=some (zbI c (v a)):=by show atI _ _=_;rw [zaW,b1]
 have f4:ixD (zbI c (v a)) (.int b)=some (oD (v a b)):=by show atI _ _=_;rw [zaW,b2]
 obtain ⟨x,hx⟩:=yb7.mp hl;rw [hx] at f2
 by_cases e:x=n
 ·subst e;have n1:neD (.int x) (.int x)=some (.bl false):=zfm rfl rfl;generalize flr r c w=F at *;generalize flr r c v=G at *;generalize zbI c (w a)=R1 at *;generalize zbI c (v a)=R2 at *;simp [zey,f1,f2,oD,n1]
 ·have n1:neD (.int x) (.int n)=some (.bl true):=by
   show some (D.bl (!_))=_;rw [zfe,yaH e];rfl
  have n2:neD (.int x) (.int x)=some (.bl false):=zfm rfl rfl;rw [hv x hx e] at f4;generalize flr r c w=F at *;generalize flr r c v=G at *;generalize zbI c (w a)=R1 at *;generalize zbI c (v a)=R2 at *;simp [zey,f1,f2,f3,f4,oD,n1,n2]
def zpS{s0 s1 s2 s3 s6 s7 s8 s9 s12 s13 s14 s15 s16 s17:Sl}{gs:List Gf}{n:Int}(r1:1<=r)(hr:r<=100)(hc:c<=100)(hn:gs.length<=100)(hg:∀g∈gs,∀i j x,g i j=some x->0<=x/\x<5) :
  ze1 [s0,s1,s2,s3,some (false,.lst (lays r c gs)),some (false,flr r c (ovs gs)),s6,s7,s8,s9,some (false,.int n),some (false,flr r c (ovs (gs.map fun g=>repG g (some n) none))),s12,s13,s14,s15,s16,s17] S=.rt (.bl true) S:=by
 obtain ⟨ρ',e,y14,y15,rfl⟩:=zcz (tg:=.tup [14,15]) (body:=zey) (ds:=(zbX r c).filter (zcn (ovs gs))) (S:=S) (fun _ ρ=>∃y14 y15,ρ=[s0,s1,s2,s3,some (false,.lst (lays r c gs)),some (false,flr r c (ovs gs)),s6,s7,s8,s9,some (false,.int n),some (false,flr r c (ovs (gs.map fun g=>repG g (some n) none))),s12,s13,y14,y15,s16,s17])
  (by
   rintro k d ρ hd ⟨y14,y15,rfl⟩;obtain ⟨hm,hp⟩:=ybc.mp (yaZ hd);obtain ⟨a,b,ha,hb,rfl⟩:=zff hm
   have hl:(ovs gs a b).isSome:=by
    have:(ovs gs (a:Int).toNat (b:Int).toNat).isSome=true:=hp;exact this
   exact ⟨_,_,rfl,zuq ha hb (fun x hx hne=>zhI hne hx) hl,_,_,rfl⟩)
  (ρ:=[s0,s1,s2,s3,some (false,.lst (lays r c gs)),some (false,flr r c (ovs gs)),s6,s7,s8,s9,some (false,.int n),some (false,flr r c (ovs (gs.map fun g=>repG g (some n) none))),s12,s13,s14,s15,s16,s17]) ⟨s14,s15,rfl⟩
 have t11:=zpR (s0:=s0) (s1:=s1) (s2:=s2) (s3:=s3) (s6:=s6) (s7:=s7) (s8:=s8) (s9:=s9) (s10:=some (false,.int n)) (s11:=some (false,flr r c (ovs (gs.map fun g=>repG g (some n) none)))) (s12:=s12) (s13:=s13) (s14:=y14) (s15:=y15) (s16:=s16) (s17:=s17) (S:=S) r1 hr hc hn hg;have ld:=zc6 (r:=r) (c:=c) (g:=ovs gs) (S:=S) r1 hr hc
 have hll:((zbX r c).filter (zcn (ovs gs))).length<=100000:=by
  refine yao (ybn _ _) ?_;rw [zcL];have:r*c<=100*100:=ybr hr hc;omega
 generalize (zbX r c).filter (zcn (ovs gs))=PL at *;generalize flr r c (ovs (gs.map fun g=>repG g (some n) none))=G at *;generalize lays r c gs=Y at *;generalize flr r c (ovs gs)=F at *;simp [ze1,ld,e,t11,hll]
def zoY{ns:List Int}{k:Int}:inD (.int k) (.lst (ns.map D.int))=some (.bl (decide (k∈ns))):=by
 have e:zhQ (.int k) (ns.map D.int)=decide (k∈ns):=by
  unfold zhQ;rw [List.any_map]
  by_cases h:k∈ns
  ·rw [yaQ h,ycw];exact ⟨k,h,by show zeA _ _=true;rw [zfe];simp⟩
  ·rw [yaH h,List.any_eq_false];intro x hx z;have z:zeA (.int x) (.int k)=true:=z;rw [zfe] at z;exact h (yah z ▸ hx)
 show (if _ then _ else _)=_;rw [show (D.int k).fit 8=true from rfl,show D.fits 8 (ns.map D.int)=true by rw [D.fits_iff];intro d hd;obtain ⟨y,_,rfl⟩:=yaq.mp hd;rfl,e];rfl
def zs5{s0 s1 s2 s3 s6 s7 s8 s9 s12 s13 s14 s15 s16 s17:Sl}{gs:List Gf}{n:Int}(r1:1<=r)(hr:r<=100)(hc:c<=100)(hn:gs.length<=100)(hg:∀g∈gs,∀i j x,g i j=some x->0<=x/\x<5) :
  zgE [s0,s1,s2,s3,some (false,.lst (lays r c gs)),some (false,flr r c (ovs gs)),s6,s7,s8,s9,some (false,.int n),some (false,flr r c (ovs (gs.map fun g=>repG g (some n) none))),s12,s13,s14,s15,s16,s17] S=.rt (.bl true) S:=by
 have t10:=zpS (s0:=s0) (s1:=s1) (s2:=s2) (s3:=s3) (s6:=s6) (s7:=s7) (s8:=s8) (s9:=s9) (s12:=s12) (s13:=s13) (s14:=s14) (s15:=s15) (s16:=s16) (s17:=s17) (n:=n) (S:=S) r1 hr hc hn hg
 have hv:∀i j x,ovs (gs.map fun g=>repG g (some n) none) i j=some x->(0<=x/\x<5)/\x≠n:=zjP (P:=fun x=>(0<=x/\x<5)/\x≠n) (fun g' hm i j x e=>by
  obtain ⟨g,hgm,rfl⟩:=yaq.mp hm;obtain ⟨h1,h2⟩:=zoa e
  exact ⟨hg g hgm i j x h2,h1⟩)
 generalize ovs (gs.map fun g=>repG g (some n) none)=v at *;have et:=zd8 (g:=v) (S:=S) r1 hr hc (fun i j x e=>by have:=hv i j x e;omega)
 have ec:zaH (.tup [0,1]) zbT (zac 0) [none,none] (zez (zaP r c v)) S=.ok ((ST.zad (zaP r c v)).map D.int) S:=by
  rw [zbB (g:=fun d=>match d with | .tup [k,_]=>k | _=>.non)]
  ·unfold zez;rw [ybb];rfl
  ·intro d hd;obtain ⟨k,_,rfl⟩:=yaq.mp hd;exact ⟨_,rfl,by simp⟩
 have ei:inD (.int n) (.lst ((ST.zad (zaP r c v)).map D.int))=some (.bl false):=by
  rw [zoY,yaH];intro z;have z2:=yah (ybc.mp z).2;obtain ⟨i,j,_,_,e⟩:=zfk.mp z2;exact (hv i j n e).2 rfl
 have hl:((ST.zad (zaP r c v)).map D.int).length<=100000:=by rw [yaf];exact yao ST.zaA (by decide)
 have hl2:=znB (ns:=zaP r c v);generalize zez (zaP r c v)=TL at *;generalize (ST.zad (zaP r c v)).map D.int=CL at *;generalize flr r c v=G at *;generalize lays r c gs=Y at *;generalize flr r c (ovs gs)=F at *;simp [zgE,et,ec,ei,hl,hl2,t10]
def zs6{s0 s2 s3 s6 s7 s8 s9 s11 s12 s13 s14 s15 s16 s17:Sl}{gs:List Gf}{n:Int}{td:List D}(h0:gs≠[])(r1:1<=r)(hr:r<=100)(hc:c<=100)(hn:gs.length<=100)(hg:∀g∈gs,∀i j x,g i j=some x->0<=x/\x<5) :
  zgF [s0,some (false,.tup td),s2,s3,some (false,.lst (lays r c gs)),some (false,flr r c (ovs gs)),s6,s7,s8,s9,some (false,.int n),s11,s12,s13,s14,s15,s16,s17] S=.rt (.bl true) S:=by
 have t9:=zs5 (s0:=s0) (s1:=some (false,.tup td)) (s2:=s2) (s3:=s3) (s6:=s6) (s7:=s7) (s8:=s8) (s9:=s9) (s12:=s12) (s13:=s13) (s14:=s14) (s15:=s15) (s16:=s16) (s17:=s17) (n:=n) (S:=S) r1 hr hc hn hg
 have ec:∀hs:List Gf,zaH (.one 0) zbT (eFn zbR [(zac 2),(zac 0),(zac 1),(zal .non)]) [none,some (false,.int n),some (false,.tup td)] (lays r c hs) S=.ok (lays r c (hs.map fun g=>repG g (some n) none)) S:=by
  intro hs
  induction hs with
  | nil=>rfl
  | cons g hs ih =>
   refine zbn (ρ1:=[some (false,flr r c g),some (false,.int n),some (false,.tup td)]) rfl ?_ ih;have e:=zfZ (ts:=td) (a:=some n) (b:=none) (g:=g) (S:=S) (fun x hx=>by cases hx) hr hc;simp only [oD] at e;simp [e]
 have ec:=ec gs
 have es:zda [.lst (lays r c (gs.map fun g=>repG g (some n) none))] S=.ok (flr r c (ovs (gs.map fun g=>repG g (some n) none))) S:=by
  cases gs with
  | nil=>exact absurd rfl h0
  | cons g hs=>exact ze7 (S:=S) r1 (show r<=1000 by omega) (show c<=1000 by omega)
 have hl:(lays r c (gs.map fun g=>repG g (some n) none)).length<=100000:=by simp [lays];omega
 have hl3:(lays r c gs).length<=100000:=by simp [lays];omega
 generalize lays r c (gs.map fun g=>repG g (some n) none)=Y2 at *;generalize flr r c (ovs (gs.map fun g=>repG g (some n) none))=G at *;generalize lays r c gs=Y at *;generalize flr r c (ovs gs)=F at *;simp [zgF,ec,es,hl,hl3,t9]
def zs7{l:List Int}{s2 s3 s6 s9 s10 s11 s12 s13 s14 s15 s16 s17:Sl}{gs:List Gf}{td:List D}{i j k m:Nat}(h0:gs≠[])(r1:1<=r)(hr:r<=100)(hc:c<=100)(hn:gs.length<=100)(hg:∀g∈gs,∀i j x,g i j=some x->0<=x/\x<5)(ht:0<(td.length:Int))(hi:i<r)(hj:j<c)(hk:k<r)(hm:m<c){b4:Bool} :
  zgG [some (false,.scr l),some (false,.tup td),s2,s3,some (b4,.lst (lays r c gs)),some (false,flr r c (ovs gs)),s6,some (false,plD i j),some (false,plD k m),s9,s10,s11,s12,s13,s14,s15,s16,s17] S=.rt (.bl true) S:=by
 have p6:=zaU (l:=l) (k:=6) (many:=(td.length:Int)) (S:=S) (by omega) ht;generalize zbc l 6 (td.length:Int)=n at *;have t8:=zs6 (s0:=some (false,.scr l)) (s2:=s2) (s3:=s3) (s6:=s6) (s7:=some (false,plD i j)) (s8:=some (false,plD k m)) (s9:=s9) (s11:=s11) (s12:=s12) (s13:=s13) (s14:=s14) (s15:=s15) (s16:=s16) (s17:=s17) (n:=n) (td:=td) (S:=S) h0 r1 hr hc hn hg
 have ec:∀hs:List Gf,zaH (.one 0) zbT (eFn za7 [(zac 3),(zac 0),(zac 1),(zac 2)]) [none,some (false,plD i j),some (false,plD k m),some (false,.tup td)] (lays r c hs) S=.ok (lays r c (hs.map fun g=>zie g i j k m)) S:=by
  intro hs
  induction hs with
  | nil=>rfl
  | cons g hs ih =>
   refine zbn (ρ1:=[some (false,flr r c g),some (false,plD i j),some (false,plD k m),some (false,.tup td)]) rfl ?_ ih;have e:=zc7 (T:=.tup td) (g:=g) (S:=S) r1 hr hc hi hj hk hm;generalize plD i j=p1 at *;generalize plD k m=p2 at *;simp [e]
 have ec:=ec gs
 have es:zda [.lst (lays r c (gs.map fun g=>zie g i j k m))] S=.ok (flr r c (ovs (gs.map fun g=>zie g i j k m))) S:=by
  cases gs with
  | nil=>exact absurd rfl h0
  | cons g hs=>exact ze7 (S:=S) r1 (show r<=1000 by omega) (show c<=1000 by omega)
 rw [zos] at es;have ex:=zc7 (T:=.tup td) (g:=ovs gs) (S:=S) r1 hr hc hi hj hk hm;have ne:=zoF (r:=r) (c:=c) (g:=zie (ovs gs) i j k m)
 have hl:(lays r c (gs.map fun g=>zie g i j k m)).length<=100000:=by simp [lays];omega
 have hl3:(lays r c gs).length<=100000:=by simp [lays];omega
 generalize lays r c (gs.map fun g=>zie g i j k m)=Y2 at *;generalize flr r c (zie (ovs gs) i j k m)=G at *;generalize lays r c gs=Y at *;generalize flr r c (ovs gs)=F at *;generalize plD i j=p1 at *;generalize plD k m=p2 at *
 cases b4<;>simp [zgG,ec,es,ex,ne,hl,hl3,zi1,p6,t8]
def znf{q:Int}(h:0<=q/\q<((zbX r c).length:Int)):∃i j,i<r/\j<c/\ixD (.lst (zbX r c)) (.int q)=some (plD i j):=by
 have hq:q.toNat<(zbX r c).length:=by omega
 obtain ⟨i,j,hi,hj,e⟩:=zff (ya7 hq);refine ⟨i,j,hi,hj,?_⟩;show atI _ q=_;rw [zfE h.1,yac hq,e]
def zs8{l:List Int}{s2 s3 s5 s6 s7 s8 s9 s10 s11 s12 s13 s14 s15 s16 s17:Sl}{gs:List Gf}{td:List D}(h0:gs≠[])(r1:1<=r)(hr:r<=100)(c1:1<=c)(hc:c<=100)(hn:gs.length<=100)(hg:∀g∈gs,∀i j x,g i j=some x->0<=x/\x<5)(ht:0<(td.length:Int)) :
  zgH [some (false,.scr l),some (false,.tup td),s2,s3,some (true,.lst (lays r c gs)),s5,s6,s7,s8,s9,s10,s11,s12,s13,s14,s15,s16,s17] S=.rt (.bl true) S:=by
 have hpl:0<((zbX r c).length:Int):=by
  rw [zcL];have:0<r*c:=Nat.mul_pos (by omega) (by omega);omega
 have p1:=zaU (l:=l) (k:=4) (many:=((zbX r c).length:Int)) (S:=S) (by omega) hpl;have p2:=zaU (l:=l) (k:=5) (many:=((zbX r c).length:Int)) (S:=S) (by omega) hpl;obtain ⟨i,j,hi,hj,i1⟩:=znf (za9 l 4 (many:=((zbX r c).length:Int)) hpl);obtain ⟨k,m,hk,hm,i2⟩:=znf (za9 l 5 (many:=((zbX r c).length:Int)) hpl);generalize zbc l 4 _=q1 at *;generalize zbc l 5 _=q2 at *;have t6:=fun b4 s6=>zs7 (l:=l) (s2:=s2) (s3:=s3) (s6:=s6) (s9:=s9) (s10:=s10) (s11:=s11) (s12:=s12) (s13:=s13) (s14:=s14) (s15:=s15) (s16:=s16) (s17:=s17) (td:=td) (b4:=b4) (S:=S) h0 r1 hr hc hn hg ht hi hj hk hm
 obtain ⟨g0,e0⟩:∃g0:Gf,atI (lays r c gs) 0=some (flr r c g0):=by
  cases gs with
  | nil=>exact absurd rfl h0
  | cons g hs=>exact ⟨g,by rw [show (0:Int)=((0:Nat):Int) from rfl,zaW];rfl⟩
 have es:zda [.lst (lays r c gs)] S=.ok (flr r c (ovs gs)) S:=by
  cases gs with
  | nil=>exact absurd rfl h0
  | cons g hs=>exact ze7 (S:=S) r1 (show r<=1000 by omega) (show c<=1000 by omega)
 have ep:=zeI (g:=g0) (S:=S) r1 hr hc;generalize zbX r c=L at *;generalize lays r c gs=Y at *;generalize flr r c (ovs gs)=F at *;generalize flr r c g0=F0 at *;generalize plD i j=p4 at *;generalize plD k m=p5 at *;simp [zgH,es,e0,ep,zi2,p1,p2,i1,i2,t6]
def zl8(l:List Int)(hl0:l.length<=63):zqJ [.scr l] []=.ok (.bl true) []:=by
 obtain ⟨ts,hT,et⟩:=zjr (l:=l) (at':=200) (most:=4) (S:=[]) (by omega) (by omega) (by omega);have n1:=hT.ne;have n4:=hT.le;have q1:=zaU (l:=l) (S:=[]) (k:=1) (many:=4) (by omega) (by omega);have q2:=zaU (l:=l) (S:=[]) (k:=2) (many:=4) (by omega) (by omega);have b1:=za9 l 1 (many:=4) (by omega);have b2:=za9 l 2 (many:=4) (by omega);generalize zbc l 1 4=z1 at *;generalize zbc l 2 4=z2 at *;obtain ⟨u1,rfl⟩:=ybe b1.1;obtain ⟨u2,rfl⟩:=ybe b2.1
 have hp2:0<((ts.map zaD).length:Int)*3:=by simp;omega
 have fl:=fun k:Nat=>zjt (l:=l) (at':=300+100*(k:Int)) (m:=3) (ts:=ts.map zaD) (r:=1+(u1:Int)) (c:=1+(u2:Int)) (S:=[]) (by omega) hp2 (by decide) (by omega) (by omega) (by omega) (by omega)
 rw [show (1+(u1:Int)).toNat=1+u1 by omega,show (1+(u2:Int)).toNat=1+u2 by omega] at fl;have p3:=zaU (l:=l) (S:=[]) (k:=3) (many:=3) (by omega) (by omega);have pn:=za9 l 3 (many:=3) (by omega);generalize zbc l 3 3=p at *;obtain ⟨q,rfl⟩:=ybe pn.1
 have ec:zaH (.one 0) zbT (eFn za0 [(zac 3),(zai zbU (zal (.int 300)) (zai zgW (zal (.int 100)) (zaj 0))),(zac 4),(zac 2),(zac 1),(zal (.int 3))]) [none,some (false,.int (1+(u2:Int))),some (false,.int (1+(u1:Int))),some (false,.scr l),some (false,.tup (ts.map zaD))] (zaB 0 (1+(q:Int))) []=.ok (lays (1+u1) (1+u2) ((List.range (1+q)).map fun (k:Nat)=>zgV l (300+100*(k:Int)) (ts.map zaD).length 3)) []:=by
  have hrg:zaB 0 (1+(q:Int))=(List.range (1+q)).map fun (k:Nat)=>D.int k:=by
   unfold zaB;rw [show ((1+(q:Int))-0).toNat=1+q by omega];simp
  have f60:zby 100=true:=by decide
  have:∀ks:List Nat,zaH (.one 0) zbT (eFn za0 [(zac 3),(zai zbU (zal (.int 300)) (zai zgW (zal (.int 100)) (zaj 0))),(zac 4),(zac 2),(zac 1),(zal (.int 3))]) [none,some (false,.int (1+(u2:Int))),some (false,.int (1+(u1:Int))),some (false,.scr l),some (false,.tup (ts.map zaD))] (ks.map fun (k:Nat)=>D.int k) []=.ok (lays (1+u1) (1+u2) (ks.map fun (k:Nat)=>zgV l (300+100*(k:Int)) (ts.map zaD).length 3)) []:=by
   intro ks
   induction ks with
   | nil=>rfl
   | cons k ks ih =>
    refine zbn (ρ1:=[some (false,.int k),some (false,.int (1+(u2:Int))),some (false,.int (1+(u1:Int))),some (false,.scr l),some (false,.tup (ts.map zaD))]) rfl ?_ ih;have:=fl k;generalize ts.map zaD=tsd at *;simp [f60,this]
  rw [hrg];exact this _
 have hgl:((List.range (1+q)).map fun (k:Nat)=>zgV l (300+100*(k:Int)) (ts.map zaD).length 3).length=1+q:=by simp
 have hgs:∀g∈((List.range (1+q)).map fun (k:Nat)=>zgV l (300+100*(k:Int)) (ts.map zaD).length 3),∀i j x,g i j=some x->0<=x/\x<5:=by
  intro g hg i j x e;obtain ⟨k,_,rfl⟩:=yaq.mp hg;have:=zro hp2 x e;rw [yaf] at this;omega
 generalize ((List.range (1+q)).map fun (k:Nat)=>zgV l (300+100*(k:Int)) (ts.map zaD).length 3)=gs at *;have t4:=zs8 (l:=l) (s2:=some (false,.int (1+(u1:Int)))) (s3:=some (false,.int (1+(u2:Int)))) (s5:=none) (s6:=none) (s7:=none) (s8:=none) (s9:=none) (s10:=none) (s11:=none) (s12:=none) (s13:=none) (s14:=none) (s15:=none) (s16:=none) (s17:=none) (td:=ts.map zaD) (r:=1+u1) (c:=1+u2) (gs:=gs) (S:=[]) (by intro z;rw [z] at hgl;simp at hgl;omega) (by omega) (by omega) (by omega) (by omega) (by omega) hgs (by simp;omega)
 have hl:(lays (1+u1) (1+u2) gs).length<=100000:=by simp;omega
 generalize lays (1+u1) (1+u2) gs=Y at *;generalize ts.map zaD=tsd at *;simp only [zqJ,zaw,zo4,zi5,zi4,zi3];simp [et,q1,q2,p3,ec,hl,t4,show -1000000<=1+(q:Int)/\1+(q:Int)<=1000000 by omega]
end S2.L72
namespace M72
open PySem L2 S2 S2.L72
noncomputable def top(i:Nat):Stmt:=PySem.Challenge.pw_floorfits_k72_whole_layers_and_changes.main.body.getD i (.Pass ⟨0,0,0,0⟩)
noncomputable def T:Tab:=⟨[],["isinstance","int","bool","tuple","len","range","all","sum","enumerate","zip","sorted","set","ValueError"],["FloorError","NoPlace","NoTile","Unlike"],[("Unlike","FloorError"),("NoPlace","FloorError"),("NoTile","FloorError")],[],[],[],["_law_book"]⟩
noncomputable def F0:Fn3:=⟨"",[],[],[]⟩
noncomputable def F1:Fn3:=F0.fn "is_whole" ⟨1,false,zaE⟩
def d1:zao (Gn T F0) false ["thing"] (top 6)=some zcA:=by rfl
def s1:FnScope ["thing"] ["thing"] (zab (top 6)):=⟨rfl,rfl,rfl,by decide +kernel,rfl,by decide +kernel,by decide +kernel⟩
noncomputable def F2:Fn3:=F1.fn "is_tuple_of" ⟨3,false,zap⟩
def d2:zao (Gn T F1) false ["thing","least","most"] (top 7)=some zbi:=by rfl
def s2:FnScope ["thing","least","most"] ["thing","least","most"] (zab (top 7)):=⟨rfl,rfl,rfl,by decide +kernel,rfl,by decide +kernel,by decide +kernel⟩
noncomputable def F3:Fn3:=F2.fn "has_number" ⟨2,false,zbb⟩
def d3:zao (Gn T F2) false ["tiles","thing"] (top 8)=some zbG:=by rfl
def s3:FnScope ["tiles","thing"] ["tiles","thing"] (zab (top 8)):=⟨rfl,rfl,rfl,by decide +kernel,rfl,by decide +kernel,by decide +kernel⟩
noncomputable def F4:Fn3:=F3.fn "may_lie" ⟨2,false,zck⟩
def d4:zao (Gn T F3) false ["tiles","thing"] (top 9)=some zdh:=by rfl
def s4:FnScope ["tiles","thing"] ["tiles","thing"] (zab (top 9)):=⟨rfl,rfl,rfl,by decide +kernel,rfl,by decide +kernel,by decide +kernel⟩
noncomputable def F5:Fn3:=F4.fn "size_of" ⟨1,false,zbP⟩
def d5:zao (Gn T F4) false ["floor","columns"] (top 10)=some zeq:=by rfl
def s5:FnScope ["floor","columns"] ["floor"] (zab (top 10)):=⟨rfl,rfl,rfl,by decide +kernel,rfl,by decide +kernel,by decide +kernel⟩
noncomputable def F6:Fn3:=F5.fn "places_of" ⟨1,true,zbt⟩
def d6:zao (Gn T F5) true ["floor","size","places","row","column"] (top 11)=some zcQ:=by rfl
def s6:FnScope ["floor","size","places","row","column"] ["floor"] (zab (top 11)):=⟨rfl,rfl,rfl,by decide +kernel,rfl,by decide +kernel,by decide +kernel⟩
noncomputable def F7:Fn3:=F6.fn "is_row_like" ⟨2,false,za3⟩
def d7:zao (Gn T F6) false ["row","thing"] (top 12)=some zb4:=by rfl
def s7:FnScope ["row","thing"] ["row","thing"] (zab (top 12)):=⟨rfl,rfl,rfl,by decide +kernel,rfl,by decide +kernel,by decide +kernel⟩
noncomputable def F8:Fn3:=F7.fn "is_like" ⟨2,false,zcl⟩
def d8:zao (Gn T F7) false ["floor","thing"] (top 13)=some zdi:=by rfl
def s8:FnScope ["floor","thing"] ["floor","thing"] (zab (top 13)):=⟨rfl,rfl,rfl,by decide +kernel,rfl,by decide +kernel,by decide +kernel⟩
noncomputable def F9:Fn3:=F8.fn "refuse_unlike" ⟨2,false,zax⟩
def d9:zao (Gn T F8) false ["floor","other"] (top 14)=some za5:=by rfl
def s9:FnScope ["floor","other"] ["floor","other"] (zab (top 14)):=⟨rfl,rfl,rfl,by decide +kernel,rfl,by decide +kernel,by decide +kernel⟩
noncomputable def F10:Fn3:=F9.fn "number_at" ⟨2,false,zaF⟩
def d10:zao (Gn T F9) false ["floor","place"] (top 15)=some zcS:=by rfl
def s10:FnScope ["floor","place"] ["floor","place"] (zab (top 15)):=⟨rfl,rfl,rfl,by decide +kernel,rfl,by decide +kernel,by decide +kernel⟩
noncomputable def F11:Fn3:=F10.fn "laid_places" ⟨1,true,zah⟩
def d11:zao (Gn T F10) true ["floor"] (top 16)=some zb3:=by rfl
def s11:FnScope ["floor"] ["floor"] (zab (top 16)):=⟨rfl,rfl,rfl,by decide +kernel,rfl,by decide +kernel,by decide +kernel⟩
noncomputable def F12:Fn3:=F11.fn "numbers_on" ⟨1,true,zbC⟩
def d12:zao (Gn T F11) true ["floor"] (top 17)=some zcp:=by rfl
def s12:FnScope ["floor"] ["floor"] (zab (top 17)):=⟨rfl,rfl,rfl,by decide +kernel,rfl,by decide +kernel,by decide +kernel⟩
noncomputable def F13:Fn3:=F12.fn "has_place" ⟨2,false,zbv⟩
def d13:zao (Gn T F12) false ["floor","place","size"] (top 18)=some zcT:=by rfl
def s13:FnScope ["floor","place","size"] ["floor","place"] (zab (top 18)):=⟨rfl,rfl,rfl,by decide +kernel,rfl,by decide +kernel,by decide +kernel⟩
noncomputable def F14:Fn3:=F13.fn "refuse_outside" ⟨2,false,zaV⟩
def d14:zao (Gn T F13) false ["floor","place"] (top 19)=some zbd:=by rfl
def s14:FnScope ["floor","place"] ["floor","place"] (zab (top 19)):=⟨rfl,rfl,rfl,by decide +kernel,rfl,by decide +kernel,by decide +kernel⟩
noncomputable def F15:Fn3:=F14.fn "tile_at" ⟨2,false,zcj⟩
def d15:zao (Gn T F14) false ["floor","place"] (top 20)=some zep:=by rfl
def s15:FnScope ["floor","place"] ["floor","place"] (zab (top 20)):=⟨rfl,rfl,rfl,by decide +kernel,rfl,by decide +kernel,by decide +kernel⟩
noncomputable def F16:Fn3:=F15.fn "with_number" ⟨3,false,za2⟩
def d16:zao (Gn T F15) false ["floor","place","number","old","row"] (top 21)=some zb2:=by rfl
def s16:FnScope ["floor","place","number","old","row"] ["floor","place","number"] (zab (top 21)):=⟨rfl,rfl,rfl,by decide +kernel,rfl,by decide +kernel,by decide +kernel⟩
noncomputable def F17:Fn3:=F16.fn "exchanged" ⟨4,false,za7⟩
def d17:zao (Gn T F16) false ["tiles","floor","one","other","first","second"] (top 23)=some zcU:=by rfl
def s17:FnScope ["tiles","floor","one","other","first","second"] ["tiles","floor","one","other"] (zab (top 23)):=⟨rfl,rfl,rfl,by decide +kernel,rfl,by decide +kernel,by decide +kernel⟩
noncomputable def F18:Fn3:=F17.fn "row_replaced" ⟨3,false,zaO⟩
def d18:zao (Gn T F17) false ["row","old","new"] (top 24)=some zbM:=by rfl
def s18:FnScope ["row","old","new"] ["row","old","new"] (zab (top 24)):=⟨rfl,rfl,rfl,by decide +kernel,rfl,by decide +kernel,by decide +kernel⟩
noncomputable def F19:Fn3:=F18.fn "replaced" ⟨4,false,zbR⟩
def d19:zao (Gn T F18) false ["tiles","floor","old","new"] (top 25)=some zdz:=by rfl
def s19:FnScope ["tiles","floor","old","new"] ["tiles","floor","old","new"] (zab (top 25)):=⟨rfl,rfl,rfl,by decide +kernel,rfl,by decide +kernel,by decide +kernel⟩
noncomputable def F20:Fn3:=F19.fn "row_over" ⟨2,false,zbQ⟩
def d20:zao (Gn T F19) false ["row","other"] (top 27)=some zdy:=by rfl
def s20:FnScope ["row","other"] ["row","other"] (zab (top 27)):=⟨rfl,rfl,rfl,by decide +kernel,rfl,by decide +kernel,by decide +kernel⟩
noncomputable def F21:Fn3:=F20.fn "over" ⟨2,false,zhD⟩
def d21:zao (Gn T F20) false ["one","other"] (top 28)=some zkz:=by rfl
def s21:FnScope ["one","other"] ["one","other"] (zab (top 28)):=⟨rfl,rfl,rfl,by decide +kernel,rfl,by decide +kernel,by decide +kernel⟩
noncomputable def F22:Fn3:=F21.fn "seen" ⟨1,false,zda⟩
def d22:zao (Gn T F21) false ["layers","whole","layer"] (top 29)=some zky:=by rfl
def s22:FnScope ["layers","whole","layer"] ["layers"] (zab (top 29)):=⟨rfl,rfl,rfl,by decide +kernel,rfl,by decide +kernel,by decide +kernel⟩
noncomputable def F23:Fn3:=F22.fn "row_under" ⟨2,false,zbs⟩
def d23:zao (Gn T F22) false ["row","other"] (top 30)=some zcP:=by rfl
def s23:FnScope ["row","other"] ["row","other"] (zab (top 30)):=⟨rfl,rfl,rfl,by decide +kernel,rfl,by decide +kernel,by decide +kernel⟩
noncomputable def F24:Fn3:=F23.fn "under" ⟨2,false,zfd⟩
def d24:zao (Gn T F23) false ["one","other"] (top 31)=some zg6:=by rfl
def s24:FnScope ["one","other"] ["one","other"] (zab (top 31)):=⟨rfl,rfl,rfl,by decide +kernel,rfl,by decide +kernel,by decide +kernel⟩
noncomputable def F25:Fn3:=F24.fn "under_all" ⟨2,false,zbr⟩
def d25:zao (Gn T F24) false ["floor","layers","left","layer"] (top 32)=some zcO:=by rfl
def s25:FnScope ["floor","layers","left","layer"] ["floor","layers"] (zab (top 32)):=⟨rfl,rfl,rfl,by decide +kernel,rfl,by decide +kernel,by decide +kernel⟩
noncomputable def F26:Fn3:=F25.fn "only_seen" ⟨1,true,zbu⟩
def d26:zao (Gn T F25) true ["layers"] (top 33)=some zcR:=by rfl
def s26:FnScope ["layers"] ["layers"] (zab (top 33)):=⟨rfl,rfl,rfl,by decide +kernel,rfl,by decide +kernel,by decide +kernel⟩
noncomputable def F27:Fn3:=F26.fn "hidden" ⟨1,true,zdW⟩
def d27:zao (Gn T F26) true ["layers"] (top 34)=some zfu:=by rfl
def s27:FnScope ["layers"] ["layers"] (zab (top 34)):=⟨rfl,rfl,rfl,by decide +kernel,rfl,by decide +kernel,by decide +kernel⟩
noncomputable def F28:Fn3:=F27.fn "counted" ⟨1,true,zdb⟩
def d28:zao (Gn T F27) true ["things"] (top 36)=some zer:=by rfl
def s28:FnScope ["things"] ["things"] (zab (top 36)):=⟨rfl,rfl,rfl,by decide +kernel,rfl,by decide +kernel,by decide +kernel⟩
noncomputable def F29:Fn3:=F28.fn "tally" ⟨1,true,zdr⟩
def d29:zao (Gn T F28) true ["floor"] (top 37)=some zg7:=by rfl
def s29:FnScope ["floor"] ["floor"] (zab (top 37)):=⟨rfl,rfl,rfl,by decide +kernel,rfl,by decide +kernel,by decide +kernel⟩
noncomputable def F30:Fn3:=F29.fn "_law_cell" ⟨2,false,za8⟩
def d30:zao (Gn T F29) false ["_law_script","_law_k"] (top 39)=some zbz:=by rfl
def s30:FnScope ["_law_script","_law_k"] ["_law_script","_law_k"] (zab (top 39)):=⟨rfl,rfl,rfl,by decide +kernel,rfl,by decide +kernel,by decide +kernel⟩
noncomputable def F31:Fn3:=F30.fn "_law_pick" ⟨3,false,zak⟩
def d31:zao (Gn T F30) false ["_law_script","_law_k","_law_many","_law_drawn"] (top 40)=some zcV:=by rfl
def s31:FnScope ["_law_script","_law_k","_law_many","_law_drawn"] ["_law_script","_law_k","_law_many"] (zab (top 40)):=⟨rfl,rfl,rfl,by decide +kernel,rfl,by decide +kernel,by decide +kernel⟩
noncomputable def F32:Fn3:=F31.fn "_law_tiles" ⟨3,false,zbD⟩
def d32:zao (Gn T F31) false ["_law_script","_law_at","_law_most","_law_colours","_law_made","_law_k","_law_tile"] (top 41)=some zcq:=by rfl
def s32:FnScope ["_law_script","_law_at","_law_most","_law_colours","_law_made","_law_k","_law_tile"] ["_law_script","_law_at","_law_most"] (zab (top 41)):=⟨rfl,rfl,rfl,by decide +kernel,rfl,by decide +kernel,by decide +kernel⟩
noncomputable def F33:Fn3:=F32.fn "_law_floor" ⟨6,false,za0⟩
def d33:zao (Gn T F32) false ["_law_script","_law_at","_law_tiles_here","_law_rows","_law_columns","_law_many","_law_made","_law_row","_law_line","_law_column","_law_here"] (top 42)=some zcr:=by rfl
def s33:FnScope ["_law_script","_law_at","_law_tiles_here","_law_rows","_law_columns","_law_many","_law_made","_law_row","_law_line","_law_column","_law_here"] ["_law_script","_law_at","_law_tiles_here","_law_rows","_law_columns","_law_many"] (zab (top 42)):=⟨rfl,rfl,rfl,by decide +kernel,rfl,by decide +kernel,by decide +kernel⟩
def d34:zao (Gn T F33) false ["_law_script","_law_tiles_here","_law_rows","_law_columns","_law_layers","_law_shown","_law_some_here","_law_one","_law_other","_law_floor_here","_law_number","_law_less","_law_here","_law_many","_law_row","_law_column","_law_total","_law_book"] (top 44)=some zo4:=by rfl
def s34:FnScope ["_law_script","_law_tiles_here","_law_rows","_law_columns","_law_layers","_law_shown","_law_some_here","_law_one","_law_other","_law_floor_here","_law_number","_law_less","_law_here","_law_many","_law_row","_law_column","_law_total","_law_book"] ["_law_script"] (zab (top 44)):=⟨rfl,rfl,rfl,by decide +kernel,rfl,by decide +kernel,by decide +kernel⟩
def gm{K:PySem.W.Frag}{x:Str}{st:Stmt}{f:Addr}{oc kV dc pm cd ct:Value}{od an:Option Addr}{sl:Array (Option Value)}(a:PySem.W.nsIn K mainGlobals x=some (some (.ref f)))(l:K.lookup f=some ⟨oc,od,.func (PySem.W.fnOf x x (zbN st) (zbA st) (zab st) .none kV dc pm an cd ct),sl⟩)(c:PySem.W.codeIn K cd x=true)(k:PySem.W.keepIn K (.ref f)=true)(i:PySem.W.isFn K (.ref f)=true):GFn K x st:=⟨f,a,oc,od,kV,dc,pm,an,cd,ct,sl,l,c,k,i⟩
def mm{K:PySem.W.Frag}{x q:Str}{st:Stmt}{f:Addr}{oc kV dc pm cd ct:Value}{od an:Option Addr}{sl:Array (Option Value)}{C:Addr}(a:PySem.W.findIn K (.ref C) x=some (some (.ref f)))(l:K.lookup f=some ⟨oc,od,.func (PySem.W.fnOf x q (zbN st) (zbA st) (zab st) .none kV dc pm an cd ct),sl⟩)(c:PySem.W.codeIn K cd q=true)(k:PySem.W.keepIn K (.ref f)=true)(i:PySem.W.isFn K (.ref f)=true):MFn K C x q st:=⟨f,a,oc,od,kV,dc,pm,an,cd,ct,sl,l,c,k,i⟩
def all_mk{l:PySem.W.OpenLaw}{w:PySem.World}{K:PySem.W.Frag}{h:Heap}{mg:Z6}{fa f34:Addr}(X:K.In h)(G:h.Ns mainGlobals mg)(hfa:mg "law" = some (.ref fa))
  {od34 an34:Option Addr} {sl34:Array (Option Value)} {oc34 kV34 dc34 pm34 cd34 ct34:Value}
  (a34:PySem.W.nsIn K mainGlobals "law" = some (some (.ref f34)))
  (l34:K.lookup f34=some ⟨oc34,od34,.func (PySem.W.fnOf "law" "law" (zbN (top 44)) (zbA (top 44)) (zab (top 44)) .none kV34 dc34 pm34 an34 cd34 ct34),sl34⟩) (c34:PySem.W.codeIn K cd34 "law" = true) (k34:PySem.W.keepIn K (.ref f34)=true)
  (z1:PySem.W.nsIn K mainGlobals "isinstance" = some none)
  (z2:PySem.W.nsIn K mainGlobals "int" = some none)
  (z3:PySem.W.nsIn K mainGlobals "bool" = some none)
  (z4:PySem.W.nsIn K mainGlobals "tuple" = some none)
  (z5:PySem.W.nsIn K mainGlobals "len" = some none)
  (z6:PySem.W.nsIn K mainGlobals "range" = some none)
  (z7:PySem.W.nsIn K mainGlobals "all" = some none)
  (z8:PySem.W.nsIn K mainGlobals "sum" = some none)
  (z9:PySem.W.nsIn K mainGlobals "enumerate" = some none)
  (z10:PySem.W.nsIn K mainGlobals "zip" = some none)
  (z11:PySem.W.nsIn K mainGlobals "sorted" = some none)
  (z12:PySem.W.nsIn K mainGlobals "set" = some none)
  (z13:PySem.W.nsIn K mainGlobals "ValueError" = some none)
  {e0 e1 e2 e3:Addr}
  (n0:PySem.W.nsIn K mainGlobals "FloorError" = some (some (.ref e0))) (x0:PySem.W.excIn K e0 bmV "ValueError.__new__" = true)
  (n1:PySem.W.nsIn K mainGlobals "NoPlace" = some (some (.ref e1))) (x1:PySem.W.excIn K e1 bmV "ValueError.__new__" = true)
  (n2:PySem.W.nsIn K mainGlobals "NoTile" = some (some (.ref e2))) (x2:PySem.W.excIn K e2 bmV "ValueError.__new__" = true)
  (n3:PySem.W.nsIn K mainGlobals "Unlike" = some (some (.ref e3))) (x3:PySem.W.excIn K e3 bmV "ValueError.__new__" = true)
  {el1:Value} {ed1:Option Addr} {ec1:ClassData} {es1:Array (Option Value)} (lk1:K.lookup e1=some ⟨el1,ed1,.cls ec1,es1⟩) (mr1:ec1.mro.contains (.ref e0)=true)
  {el2:Value} {ed2:Option Addr} {ec2:ClassData} {es2:Array (Option Value)} (lk2:K.lookup e2=some ⟨el2,ed2,.cls ec2,es2⟩) (mr2:ec2.mro.contains (.ref e0)=true)
  {el3:Value} {ed3:Option Addr} {ec3:ClassData} {es3:Array (Option Value)} (lk3:K.lookup e3=some ⟨el3,ed3,.cls ec3,es3⟩) (mr3:ec3.mro.contains (.ref e0)=true)
  (p1:GFn K "is_whole" (top 6)) (p2:GFn K "is_tuple_of" (top 7)) (p3:GFn K "has_number" (top 8)) (p4:GFn K "may_lie" (top 9)) (p5:GFn K "size_of" (top 10)) (p6:GFn K "places_of" (top 11)) (p7:GFn K "is_row_like" (top 12)) (p8:GFn K "is_like" (top 13)) (p9:GFn K "refuse_unlike" (top 14)) (p10:GFn K "number_at" (top 15)) (p11:GFn K "laid_places" (top 16)) (p12:GFn K "numbers_on" (top 17)) (p13:GFn K "has_place" (top 18)) (p14:GFn K "refuse_outside" (top 19)) (p15:GFn K "tile_at" (top 20)) (p16:GFn K "with_number" (top 21)) (p17:GFn K "exchanged" (top 23)) (p18:GFn K "row_replaced" (top 24)) (p19:GFn K "replaced" (top 25)) (p20:GFn K "row_over" (top 27)) (p21:GFn K "over" (top 28)) (p22:GFn K "seen" (top 29)) (p23:GFn K "row_under" (top 30)) (p24:GFn K "under" (top 31)) (p25:GFn K "under_all" (top 32)) (p26:GFn K "only_seen" (top 33)) (p27:GFn K "hidden" (top 34)) (p28:GFn K "counted" (top 36)) (p29:GFn K "tally" (top 37)) (p30:GFn K "_law_cell" (top 39)) (p31:GFn K "_law_pick" (top 40)) (p32:GFn K "_law_tiles" (top 41)) (p33:GFn K "_law_floor" (top 42))
  : ∃fd:FuncData,(∀(s:Shared) (v:Value),BindsTo s fd ⟨[v],[]⟩ [("_law_script",v)])/\∀base:Heap,K.In base->base.Ns mainGlobals mg->FnOk l.prog w K mg base (CXE l.prog w) 34 fa fd ["_law_script"] (S2.zlh K):=by
 have e:=hfa.symm.trans (yci X G a34);cases e;have U34:=znn (st:=(top 44)) l34 c34 k34;refine ⟨PySem.W.fnOf "law" "law" (zbN (top 44)) (zbA (top 44)) (zab (top 44)) .none kV34 dc34 pm34 an34 cd34 ct34,fun s v=>.of_eq rfl,fun base _ _=>?_⟩
 let cl:Cf:=⟨fun x=>(([("FloorError",e0),("NoPlace",e1),("NoTile",e2),("Unlike",e3)]:List (Str×Addr)).lookup x).getD 0,K,l.prog,w⟩
 have g0:GOk cl (Gn T F0) l.prog w K mg base 0:=zyp (cl:=cl) zeO (zay (yaO X G z1) (zay (yaO X G z2) (zay (yaO X G z3) (zay (yaO X G z4) (zay (yaO X G z5) (zay (yaO X G z6) (zay (yaO X G z7) (zay (yaO X G z8) (zay (yaO X G z9) (zay (yaO X G z10) (zay (yaO X G z11) (zay (yaO X G z12) (zay (yaO X G z13) zeO))))))))))))) (zay ⟨yci X G n0,x0⟩ (zay ⟨yci X G n1,x1⟩ (zay ⟨yci X G n2,x2⟩ (zay ⟨yci X G n3,x3⟩ zeO)))) (zay ⟨⟨_,_,x3⟩,_,_,_,_,lk3,mr3⟩ (zay ⟨⟨_,_,x1⟩,_,_,_,_,lk1,mr1⟩ (zay ⟨⟨_,_,x2⟩,_,_,_,_,lk2,mr2⟩ zeO))) zeO zeO;have g1:GOk cl (Gn T F1) l.prog w K mg base 1:=g0.addG X G p1 s1 rfl rfl rfl (fun _ _ _ _ _ _=>bb1 fun _=>rfl) d1;have g2:GOk cl (Gn T F2) l.prog w K mg base 2:=g1.addG X G p2 s2 rfl rfl rfl (fun _ _ _ _ _ _=>bb3 fun _ _ _=>rfl) d2;have g3:GOk cl (Gn T F3) l.prog w K mg base 3:=g2.addG X G p3 s3 rfl rfl rfl (fun _ _ _ _ _ _=>bb2 fun _ _=>rfl) d3;have g4:GOk cl (Gn T F4) l.prog w K mg base 4:=g3.addG X G p4 s4 rfl rfl rfl (fun _ _ _ _ _ _=>bb2 fun _ _=>rfl) d4;have g5:GOk cl (Gn T F5) l.prog w K mg base 5:=g4.addG X G p5 s5 rfl rfl rfl (fun _ _ _ _ _ _=>bb1 fun _=>rfl) d5;have g6:GOk cl (Gn T F6) l.prog w K mg base 6:=g5.addG X G p6 s6 rfl rfl rfl (fun _ _ _ _ _ _=>bb1 fun _=>rfl) d6;have g7:GOk cl (Gn T F7) l.prog w K mg base 7:=g6.addG X G p7 s7 rfl rfl rfl (fun _ _ _ _ _ _=>bb2 fun _ _=>rfl) d7;have g8:GOk cl (Gn T F8) l.prog w K mg base 8:=g7.addG X G p8 s8 rfl rfl rfl (fun _ _ _ _ _ _=>bb2 fun _ _=>rfl) d8;have g9:GOk cl (Gn T F9) l.prog w K mg base 9:=g8.addG X G p9 s9 rfl rfl rfl (fun _ _ _ _ _ _=>bb2 fun _ _=>rfl) d9;have g10:GOk cl (Gn T F10) l.prog w K mg base 10:=g9.addG X G p10 s10 rfl rfl rfl (fun _ _ _ _ _ _=>bb2 fun _ _=>rfl) d10;have g11:GOk cl (Gn T F11) l.prog w K mg base 11:=g10.addG X G p11 s11 rfl rfl rfl (fun _ _ _ _ _ _=>bb1 fun _=>rfl) d11;have g12:GOk cl (Gn T F12) l.prog w K mg base 12:=g11.addG X G p12 s12 rfl rfl rfl (fun _ _ _ _ _ _=>bb1 fun _=>rfl) d12;have g13:GOk cl (Gn T F13) l.prog w K mg base 13:=g12.addG X G p13 s13 rfl rfl rfl (fun _ _ _ _ _ _=>bb2 fun _ _=>rfl) d13;have g14:GOk cl (Gn T F14) l.prog w K mg base 14:=g13.addG X G p14 s14 rfl rfl rfl (fun _ _ _ _ _ _=>bb2 fun _ _=>rfl) d14;have g15:GOk cl (Gn T F15) l.prog w K mg base 15:=g14.addG X G p15 s15 rfl rfl rfl (fun _ _ _ _ _ _=>bb2 fun _ _=>rfl) d15;have g16:GOk cl (Gn T F16) l.prog w K mg base 16:=g15.addG X G p16 s16 rfl rfl rfl (fun _ _ _ _ _ _=>bb3 fun _ _ _=>rfl) d16;have g17:GOk cl (Gn T F17) l.prog w K mg base 17:=g16.addG X G p17 s17 rfl rfl rfl (fun _ _ _ _ _ _=>bb4 fun _ _ _ _=>rfl) d17;have g18:GOk cl (Gn T F18) l.prog w K mg base 18:=g17.addG X G p18 s18 rfl rfl rfl (fun _ _ _ _ _ _=>bb3 fun _ _ _=>rfl) d18;have g19:GOk cl (Gn T F19) l.prog w K mg base 19:=g18.addG X G p19 s19 rfl rfl rfl (fun _ _ _ _ _ _=>bb4 fun _ _ _ _=>rfl) d19;have g20:GOk cl (Gn T F20) l.prog w K mg base 20:=g19.addG X G p20 s20 rfl rfl rfl (fun _ _ _ _ _ _=>bb2 fun _ _=>rfl) d20;have g21:GOk cl (Gn T F21) l.prog w K mg base 21:=g20.addG X G p21 s21 rfl rfl rfl (fun _ _ _ _ _ _=>bb2 fun _ _=>rfl) d21;have g22:GOk cl (Gn T F22) l.prog w K mg base 22:=g21.addG X G p22 s22 rfl rfl rfl (fun _ _ _ _ _ _=>bb1 fun _=>rfl) d22;have g23:GOk cl (Gn T F23) l.prog w K mg base 23:=g22.addG X G p23 s23 rfl rfl rfl (fun _ _ _ _ _ _=>bb2 fun _ _=>rfl) d23;have g24:GOk cl (Gn T F24) l.prog w K mg base 24:=g23.addG X G p24 s24 rfl rfl rfl (fun _ _ _ _ _ _=>bb2 fun _ _=>rfl) d24;have g25:GOk cl (Gn T F25) l.prog w K mg base 25:=g24.addG X G p25 s25 rfl rfl rfl (fun _ _ _ _ _ _=>bb2 fun _ _=>rfl) d25;have g26:GOk cl (Gn T F26) l.prog w K mg base 26:=g25.addG X G p26 s26 rfl rfl rfl (fun _ _ _ _ _ _=>bb1 fun _=>rfl) d26;have g27:GOk cl (Gn T F27) l.prog w K mg base 27:=g26.addG X G p27 s27 rfl rfl rfl (fun _ _ _ _ _ _=>bb1 fun _=>rfl) d27;have g28:GOk cl (Gn T F28) l.prog w K mg base 28:=g27.addG X G p28 s28 rfl rfl rfl (fun _ _ _ _ _ _=>bb1 fun _=>rfl) d28;have g29:GOk cl (Gn T F29) l.prog w K mg base 29:=g28.addG X G p29 s29 rfl rfl rfl (fun _ _ _ _ _ _=>bb1 fun _=>rfl) d29;have g30:GOk cl (Gn T F30) l.prog w K mg base 30:=g29.addG X G p30 s30 rfl rfl rfl (fun _ _ _ _ _ _=>bb2 fun _ _=>rfl) d30;have g31:GOk cl (Gn T F31) l.prog w K mg base 31:=g30.addG X G p31 s31 rfl rfl rfl (fun _ _ _ _ _ _=>bb3 fun _ _ _=>rfl) d31;have g32:GOk cl (Gn T F32) l.prog w K mg base 32:=g31.addG X G p32 s32 rfl rfl rfl (fun _ _ _ _ _ _=>bb3 fun _ _ _=>rfl) d32;have g33:GOk cl (Gn T F33) l.prog w K mg base 33:=g32.addG X G p33 s33 rfl rfl rfl (fun _ _ _ _ _ _=>bb6 fun _ _ _ _ _ _=>rfl) d33;have G34:=zrR (cl:=cl) (wo:=w) (P:=l.prog) U34 s34 g33 rfl rfl rfl d34;exact G34.imp (zrv (cl:=cl) (fun l hl=>⟨[],zl8 l hl⟩))
def walk{l:PySem.W.OpenLaw}{q:Program}{loose:List Str}{XP:(Str->Option Value)->Heap->Prop}{YP:PySem.World->Heap->Prop}{d:DefRec}{K:Params->PySem.W.Frag}(hn:l.most=some 63)(hdf:d.params.defaults=[])
  (hY:∀(w:PySem.World) (h:Heap),YP w h->(K w.params).In h)
  (F:∀(w:PySem.World) (mg:Z6) (fa:Addr) (h:Heap),(K w.params).In h->h.Ns mainGlobals mg->mg d.name=some (.ref fa) →
   ∃fd:FuncData,(∀(s:Shared) (u:Value),BindsTo s fd ⟨[u],[]⟩ [("_law_script",u)])/\∀base:Heap,(K w.params).In base->base.Ns mainGlobals mg->FnOk l.prog w (K w.params) mg base (CXE l.prog w) 34 fa fd ["_law_script"] (S2.zlh (K w.params))) :
  PySem.W.WalkO q loose XP YP l.row.toRowW d [] (fun f vs=>PySem.call f vs) :=
 L2.zny (n:=63) (k:=34) (x:="_law_script") (CX:=fun w=>CXE l.prog w) (sp:=fun w=>S2.zlh (K w.params)) hn (by decide) hdf ⟨rfl,by decide,by decide⟩ hY F (fun _ _ a ns hl hO hS=>⟨a,ns,rfl,hl,hO,hS,fun _=>rfl⟩) (by rintro _ _ _ _ _ ⟨_,_,_,_,_,_,_,_,_,_,_,_,_,_,z⟩;exact z)
end M72
namespace PySem.W.Fast
def tw2087491655468826299:=0
def tw11301347684156450861:=0
def tw5520421299126935111:=0
def tw13635951202386684328:=0
def tw7136764140693297575:=0
def tw6379865127607616041:=0
def tw5727840891811751791:=0
def tw8598313321619117758:=0
def tw14241132804590568864:=0
def tw1240767451980999367:=0
def tw16408685330748813612:=0
def tw17373229255006163763:=0
def tw13440997041155871143:=0
def tw8048444063937248437:=0
def tw17049410130771783197:=0
def tw3714626214305061994:=0
def tw14865882461472349534:=0
def tw17808980737752456937:=0
def tw14905934701226604696:=0
def tw14819220004469851572:=0
def tw16189768640652498925:=0
def tw2203803749728574118:=0
def tw12083610341020909714:=0
def tw1782255047881867780:=0
def tw15776035379233314160:=0
def tw5581867569871474994:=0
def tw6246574807146096337:=0
def tw495926104717423734:=0
def tw2101434026958758089:=0
def tw8616483153575669075:=0
def tw1523018546458304326:=0
def tw1621138886268272742:=0
def tw11578332089377539226:=0
def tw7036346479559003371:=0
def tw17933350422414595079:=0
def tw10778836584336509173:=0
def tw15621106021665031506:=0
def tw17118704977874341624:=0
def tw7663346167482191180:=0
def tw2102426219121811391:=0
def tw8352553503052510252:=0
def tw14068600691568218343:=0
def tw15590305497366152471:=0
def tw1083825313712300856:=0
def tw14828287100809822730:=0
def tw146950678083498670:=0
def tw12338387507879017098:=0
def tw11583451267698491896:=0
def tw18304022204548441371:=0
def tw15505795938530884888:=0
def tw14972023439789158918:=0
def tw47433795110093681:=0
def tw12567769130072001414:=0
def tw4585673405963648407:=0
def tw12278451979634425014:=0
def tw3779276171634235692:=0
def tw9762983059519135424:=0
def tw66999405531747068:=0
def tw14249071090276362903:=0
def tw3646085148406548793:=0
def tw4752908370500666284:=0
def tw8680796927592517809:=0
def tw13695825952565029420:=0
def tw5452150337477834563:=0
def tw7246372218551686156:=0
def tw12019927837896748361:=0
def tw10121454111556205977:=0
def tw6789117142008907414:=0
def tw7599632331601698839:=0
def tw18217998787781100467:=0
def tw5129714417228101995:=0
def tw9385218524931727040:=0
def tw11910674034231537042:=0
def tw579769979540353725:=0
def tw11446000516484507057:=0
def tw4295072685375069950:=0
def tw12711211126521684724:=0
def tw10444924949907291916:=0
def tw15576923877944278634:=0
def tw16238896807957944394:=0
def tw5172969347897066552:=0
def tw18380997812047123987:=0
def tw3227983104931029040:=0
def tw13845442469728715138:=0
def tw14205361148554481291:=0
def tw15351911616671487300:=0
def tw4382008555562510465:=0
def tw2910460397971385012:=0
def tw13043928235680571250:=0
def tw14281411092572972030:=0
def tw4819068201745670512:=0
def tw15878873461952557232:=0
def tw1197851905986181121:=0
def tw16712872340386042355:=0
def tw15532491844399533693:=0
def tw10152274346393163845:=0
def tw12329886916813715789:=0
def tw5124446553700439302:=0
def tw16963980591226121817:=0
def tw10415340237498640454:=0
def tw6607697524278940636:=0
def tw9754756025598101188:=0
def tw13062512093403451188:=0
def tw8861361810180985500:=0
def tw15858133891279648072:=0
def tw13913750496569703005:=0
def tw12793566171224432537:=0
def tw1676892942500738134:=0
def tw17508797653715330454:=0
def tw383612094464991750:=0
def tw10712131601998790124:=0
def tw732053748437491337:=0
def tw14482567308567072116:=0
def tw9483671392303222546:=0
def tw5321250960264342688:=0
def tw14002830075938987199:=0
def tw11352674276059152975:=0
def tw2546170571244010971:=0
def tw4479013188371047135:=0
def tw7686490359473756688:=0
def tw17857936482610203147:=0
def tw10681391575728090257:=0
def tw5655372755026302141:=0
def tw12675991016941486727:=0
def tw17321320780365776517:=0
def tw5896455372262133036:=0
def tw13394722580170514936:=0
def tw12308816471293250984:=0
def tw12532266961412569229:=0
def tw10489075002089207270:=0
def tw12818995086722873506:=0
def tw7461693451187657522:=0
def tw13884363204718633087:=0
def tw5670986415559866680:=0
def tw3327273793621965983:=0
def tw18147279534929698553:=0
def tw8817996320814846179:=0
def tw1855680614263034766:=0
def tw15403989343646835005:=0
def tw15151354749009351785:=0
def tw13383679584554006982:=0
def tw8700907810568641714:=0
def tw4961052053644475163:=0
def tw5591542997944123043:=0
def tw13366821778738215266:=0
def tw18274976516387868280:=0
def tw8459499452570361441:=0
def tw9429723008789180219:=0
def tw8561510109793585066:=0
def tw8218819182693224728:=0
def tw14713661162306667434:=0
def tw5567689615134615837:=0
def tw14514791326645990458:=0
def tw15613591395733232057:=0
def tw15442863662647284608:=0
def tw11369239984755134443:=0
def tw3069022432640474053:=0
def tw12407970203070154648:=0
def tw16965361999247884661:=0
def tw5937636724845954301:=0
def tw7673645314445863726:=0
def tw15133366438244485944:=0
def tw1716393239858635087:=0
def tw4980063216216613341:=0
def tw18026708799635539486:=0
def tw1589735584321564437:=0
def tw11611200623379503947:=0
def tw10643845967058747698:=0
def tw5170301393693368559:=0
def tw4308913337070925854:=0
def tw13204767590402748512:=0
def tw11513210785963067691:=0
def tw10678226281162776280:=0
def tw1769770577399118766:=0
def tw3174771875178064109:=0
def tw1860206595643475001:=0
def tw15612613776998277677:=0
def tw2463054850539574391:=0
def tw9770701034507163531:=0
def tw12174091808639157740:=0
def tw13823880963636686179:=0
def tw2751611787424911304:=0
def tw17610889598961877115:=0
def tw14466319889534756897:=0
def tw11172685449337074563:=0
def tw901359677453834413:=0
def tw651929259370679416:=0
def tw4448542861532013511:=0
def tw18303633971715108641:=0
def tw11590979465648000741:=0
def tw9401319660163548128:=0
def tw2472906561090943094:=0
def tw12063182497281642657:=0
def tw2809264994497175887:=0
def tw15344907230675232361:=0
def tw10756321011122580347:=0
def tw10458566510569449931:=0
def tw9800366779855613867:=0
def tw9685983155051471562:=0
def tw9674378673947353264:=0
def tw9477220429351074539:=0
def tw9354999615541355932:=0
def tw9057640933186614398:=0
def tw8876691428213598217:=0
def tw8730686564976755473:=0
def tw8719087920425646058:=0
def tw8509760845094673920:=0
def tw8093007943777233334:=0
def tw7723927025598071798:=0
def tw7560031514115766377:=0
def tw6611693778248673950:=0
def tw6559714626164526238:=0
def tw6504571507132676543:=0
def tw6443072427472182565:=0
def tw6157297561433905216:=0
def tw5961019481301510137:=0
def tw5452916522264788526:=0
def tw5280990028493490320:=0
def tw4106574228488296807:=0
def tw356956519708465158:=0
def tw3288065614589426508:=0
def tw3210194315003659115:=0
def tw2965945430763131402:=0
def tw2844857815048026434:=0
def tw2721845010444361057:=0
def tw2462260880174298559:=0
def tw2264222593497386499:=0
def tw1911728382176532213:=0
def tw18113577074559214509:=0
def tw18036381239242720613:=0
def tw17058485064957214438:=0
def tw16759199134235983927:=0
def tw16682553428684435239:=0
def tw16481135319454561012:=0
def tw16223872495027436483:=0
def tw15952724754765285793:=0
def tw15896752471858154113:=0
def tw1531835394573556989:=0
def tw15014076244812663052:=0
def tw14623278453142884214:=0
def tw14580140496167389744:=0
def tw14524475832128972611:=0
def tw14403491067279658213:=0
def tw14312414554855526778:=0
def tw13895165457300261195:=0
def tw1384543569518655568:=0
def tw13754797727318304070:=0
def tw13626086273617090318:=0
def tw13595330735113122913:=0
def tw12906643681386937195:=0
def tw12898031714547327833:=0
def tw12848115734773757798:=0
def tw12719032625890769593:=0
def tw12224856719911677292:=0
def tw1222473082566159512:=0
def tw1178775903474687248:=0
def tw11706364238784560401:=0
def tw11397479717114218862:=0
def tw11179787557394179462:=0
def tw10541776817793094659:=0
def tw10219601059654135138:=0
def tw10122814989186277304:=0
end PySem.W.Fast
open PySem PySem.W PyProof.Rows
set_option maxRecDepth 100000 in
set_option maxHeartbeats 0 in
theorem PySem.Challenge.cw_floorfits_k72_whole_layers_and_changes_holds : PySem.Challenge.rw_floorfits_k72_whole_layers_and_changes.Holds := by
 w_on;o_law;k_head;(case hw=>w_witness2)
 k_fill
 refine M72.walk (l:=PySem.Challenge.rw_floorfits_k72_whole_layers_and_changes) rfl rfl (fun w h Y=>PySem.W.kIn_of Y) ?F
 case F =>
  intro w mg fa h KX G hmg;refine' M72.all_mk KX G hmg ?a34 ?l34 ?c34 ?k34 ?z1 ?z2 ?z3 ?z4 ?z5 ?z6 ?z7 ?z8 ?z9 ?z10 ?z11 ?z12 ?z13 ?n0 ?x0 ?n1 ?x1 ?n2 ?x2 ?n3 ?x3 ?lk1 ?mr1 ?lk2 ?mr2 ?lk3 ?mr3 ?_ ?_ ?_ ?_ ?_ ?_ ?_ ?_ ?_ ?_ ?_ ?_ ?_ ?_ ?_ ?_ ?_ ?_ ?_ ?_ ?_ ?_ ?_ ?_ ?_ ?_ ?_ ?_ ?_ ?_ ?_ ?_ ?_
  (case a34=>k_is);(case l34=>k_is);(case c34=>k_is);(case k34=>k_is)
  (case z1=>k_is);(case z2=>k_is);(case z3=>k_is);(case z4=>k_is)
  (case z5=>k_is);(case z6=>k_is);(case z7=>k_is);(case z8=>k_is)
  (case z9=>k_is);(case z10=>k_is);(case z11=>k_is);(case z12=>k_is)
  (case z13=>k_is);(case n0=>k_is);(case x0=>k_exc);(case n1=>k_is)
  (case x1=>k_exc);(case n2=>k_is);(case x2=>k_exc);(case n3=>k_is)
  (case x3=>k_exc);(case lk1=>k_is);(case mr1=>with_unfolding_all rfl);(case lk2=>k_is)
  (case mr2=>with_unfolding_all rfl);(case lk3=>k_is);(case mr3=>with_unfolding_all rfl)
  all_goals ((first | refine' M72.gm ?a ?l ?c ?k ?i | refine' M72.mm ?a ?l ?c ?k ?i);(case a=>k_is);(case l=>k_is);(case c=>k_is);(case k=>k_is);(case i=>k_is))
#print axioms PySem.Challenge.cw_floorfits_k72_whole_layers_and_changes_holds
