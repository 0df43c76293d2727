import PyProof.Rows.All
import Wide.All
import OpenK.AllK
import Wide.FinOn
import Lean
import PyProof.EqAt
import PyProof.EqKinds
import PyProof.TupleCall
import PySem.SetTable
import PyProof.TupleKey
import Wide.Seal
import PyProof.DictRoadsH
import PyProof.Rows.TupTab
import PyProof.Rows.TupDisplay
import PyProof.Draws
import PyProof.EnumMake
import OpenK.KRaise
import OpenK.KOwn
import PyProof.Rows.TopTwo
import PyProof.RulesAs
import PyProof.RulesDel
import PyProof.ExcArgsOwn
import PyProof.ExcAttrAll.ValueError
import PyProof.Rows.CountFlat
import PyProof.SumWalk
import PyProof.Rows.SeqCalls
import PyProof.ZipIter
import KE.KRevIter
import PyProof.CollectIter
import PyProof.TupleOfGen
import PyProof.ListRange
import PyProof.WalkInts
import PySem.Challenge.RW_floorfits_k87_changes_refused
def yaa:=@PySem.wpAny_bind
def yab:=@Bool.and_eq_true
def yac:=@List.getElem?_eq_getElem
def yad:=@PySem.Heap.get?_push_of_some
def yae:=@PySem.wpAny_pure
def yaf:=@List.size_toArray
def yag:=@PySem.Heap.get?_push_size
def yah:=@Nat.le_refl
def yai:=@List.getElem?_eq_some_iff
def yaj:=@PySem.Heap.lt_size
def yak:=@Nat.lt_of_lt_of_le
def yal:=@of_decide_eq_true
def yam:=@List.length_cons
def yan:=@List.mem_cons
def yao:=@List.length_map
def yap:=@Nat.ne_of_lt
def yaq:=@List.getElem?_map
def yar:=@List.mem_cons_of_mem
def yas:=@Nat.le_trans
def yat:=@Option.some_ne_none
def yau:=@List.length_append
def yav:=@List.getElem?_append_right
def yaw:=@List.lookup_cons
def yax:=@PySem.mem_of_lookup
def yay:=@List.getElem?_set_self
def yaz:=@Array.length_toList
def yaA:=@Bool.false_eq_true
def yaB:=@decide_eq_true_eq
def yaC:=@PyProof.Rows.callWith_type1
def yaD:=@List.length_set
def yaE:=@List.mem_cons_self
def yaF:=@List.getElem?_append_left
def yaG:=@Bool.false_ne_true
def yaH:=@List.length_take
def yaI:=@PySem.wpAny_call_entry
def yaJ:=@List.not_mem_nil
def yaK:=@PySem.wpAny_newObj_type
def yaL:=@Nat.lt_irrefl
def yaM:=@PySem.wpAny_callSpecial?_slot
def yaN:=@List.mem_append_right
def yaO:=@List.length_replicate
def yaP:=@List.getD_eq_getElem?_getD
def yaQ:=@List.getElem?_set_ne
def yaR:=@List.map_cons
def yaS:=@PySem.Heap.size_push
def yaT:=@Nat.ne_of_gt
def yaU:=@Array.getElem?_eq_getElem
def yaV:=@List.append_nil
def yaW:=@PyProof.Rows.slot_tuple_getitem
def yaX:=@List.mem_singleton
def yaY:=@PySem.Heap.get?_update_self
def yaZ:=@Array.getElem?_toList
def ya0:=@beq_eq_false_iff_ne
def ya1:=@Nat.zero_le
def ya2:=@PySem.wpAny_field
def ya3:=@PySem.W.mg_none_of
def ya4:=@decide_eq_false
def ya5:=@PySem.W.kia_one
def ya6:=@PySem.builtinLookup_eq_fast
def ya7:=@PySem.F.called_set
def ya8:=@List.mem_of_getElem?
def ya9:=@PySem.wpAny_Call_Name_kw
def yba:=@PySem.wpAny_of_eq
def ybb:=@PySem.wpAny_mono
def ybc:=@PySem.wpAny_truthy_bool
def ybd:=@List.mem_map
def ybe:=@Nat.lt_succ_of_lt
def ybf:=@List.getElem?_eq_none
def ybg:=@PySem.F.plainAttrs_list
def ybh:=@PySem.Obj.data_mapFields
def ybi:=@PySem.W.mg_of
def ybj:=@Nat.lt_succ_self
def ybk:=@List.getElem_mem
def ybl:=@PySem.wpAny_isInstance
def ybm:=@List.isEmpty_iff
def ybn:=@List.replicate_succ
def ybo:=@Int.toNat_natCast
def ybp:=@PySem.wpAny_holding
def ybq:=@PySem.isSubtype_type
def ybr:=@PySem.codeAny_builtin
def ybs:=@if_false
def ybt:=@List.getElem?_drop
def ybu:=@PySem.wpAny_setField_rec
def ybv:=@List.all_eq_true
def ybw:=@beq_self_eq_true
def ybx:=@List.eq_nil_of_length_eq_zero
def yby:=@PySem.Around.under_plainId
def ybz:=@List.getElem?_replicate
def ybA:=@List.all_cons
def ybB:=@PySem.codeAny_mono
def ybC:=@PySem.wpAny_seqItems
def ybD:=@PyProof.Rows.F.plain_set_update_loop
def ybE:=@Bool.not_eq_true'
def ybF:=@PySem.wpAny_loadPart_at
def ybG:=@List.filterMap_cons
def ybH:=@PySem.wpAny_specialOf
def ybI:=@PySem.typeLookup_type
def ybJ:=@PySem.F.slot_tuple_iterator_next
def ybK:=@Array.getElem?_eq_some_iff
def ybL:=@PySem.wpAny_pyIter_tuple
def ybM:=@or_false
def ybN:=@PySem.wpAny_attempt
def ybO:=@List.mem_append
def ybP:=@PySem.wpAny_passesOwn
def ybQ:=@List.nodup_cons
def ybR:=@List.flatten_cons
def ybS:=@List.ext_getElem?
def ybT:=@List.length_reverse
def ybU:=@Option.bind_eq_some_iff
def ybV:=@beq_iff_eq
def ybW:=@PySem.call_meets
def ybX:=@PySem.W.cellsFrom_some
def ybY:=@if_true
def ybZ:=@PySem.Heap.get?_update_other
def yb0:=@Array.getElem?_eq_none
def yb1:=@PySem.W.callWith_K
def yb2:=@PySem.wpAny_typeOf
def yb3:=@Nat.le_succ
def yb4:=@PySem.F.slot_int_rmul
def yb5:=@List.forIn_cons
def yb6:=@PySem.wpAny_rule
def yb7:=@PySem.wpAny_pyIter_list
def yb8:=@Bool.not_true
def yb9:=@List.length_range
def yca:=@PySem.wpAny_newFunctionEnv_cells
def ycb:=@PySem.F.excBase_ValueError
def ycc:=@PySem.Calls.evalArgs_plain
def ycd:=@PySem.codeAny_call_builtin
def yce:=@List.getElem_toArray
def ycf:=@List.mem_range
def ycg:=@PySem.wpAny_binaryOp_repeat_ref
def ych:=@List.drop_eq_getElem_cons
def yci:=@PyProof.Rows.F.entry_set_update_loop
def ycj:=@List.length_drop
def yck:=@PySem.F.args_tuple_add_2
def ycl:=@PySem.AutoSeq1.wpAny_loadPart'
def ycm:=@PySem.wpAny_execs_nil
def ycn:=@List.mem_filterMap
def yco:=@PySem.Calls.spliced_cons
def ycp:=@List.of_mem_zip
def ycq:=@PySem.F.entry_tuple_add
def ycr:=@List.getElem?_take
def ycs:=@PySem.wpAny_ite_split
def yct:=@List.find?_cons
def ycu:=@List.contains_cons
def ycv:=@List.getElem?_cons_succ
def ycw:=@List.map_append
def ycx:=@decide_eq_false_iff_not
def ycy:=@PySem.F.slot_tuple_add
def ycz:=@PyProof.Rows.subscriptTail_builtinR
def ycA:=@PySem.Calls.callWith_builtin
def ycB:=@Option.map_eq_some_iff
def ycC:=@List.reverse_cons
def ycD:=@PySem.wpAny_pyIter_enum
def ycE:=@decide_eq_true
def ycF:=@PySem.wpAny_setField
def ycG:=@Nat.le_of_lt
def ycH:=@PySem.codeAny_call_function
def ycI:=@List.take_append_drop
def ycJ:=@PySem.Obj.isFreed_of_fields
def ycK:=@PySem.F.typeOf_object_class
def ycL:=@List.getElem?_reverse
def ycM:=@List.mem_iff_getElem?
def ycN:=@PySem.F.slot_tuple_mul
def ycO:=@PySem.wpAny_forIn_list
def ycP:=@List.mem_append_left
def ycQ:=@List.mem_iff_getElem
def ycR:=@PySem.F.args_object_init_2
def ycS:=@PySem.signature?_of
def ycT:=@PySem.plainId_quiet
def ycU:=@PySem.typeIs_int
def ycV:=@PySem.wpAny_call
def ycW:=@List.mem_filter
def ycX:=@PySem.W.plainGet_of
def ycY:=@Bool.eq_iff_iff
def ycZ:=@Bool.or_eq_true
def yc0:=@PySem.wpAny_updateSeq
def yc1:=@PySem.F.slot_zip_next
def yc2:=@PySem.codeAny_of_tree
def yc3:=@Nat.min_eq_left
def yc4:=@List.mem_map_of_mem
def yc5:=@PyProof.Rows.assignInOrder_cons
def yc6:=@PySem.W.codeRec_of
def yc7:=@PySem.wpAny_tupleItemsOf
def yc8:=@Array.forIn_toList
def yc9:=@PySem.Code.quiet_builtin
def yda:=@Nat.sub_self
def ydb:=@Int.emod_lt_of_pos
def ydc:=@PySem.isSubtype_stop
def ydd:=@PySem.Value.isInt_shape
def yde:=@PySem.Calls.spliced_nil
def ydf:=@List.append_assoc
def ydg:=@PySem.F.args_int_rmul_2
def ydh:=@Nat.le_of_succ_le
def ydi:=@PySem.Obj.cls_mapFields
def ydj:=@PySem.wpAny_pyIter_slot
def ydk:=@PySem.wpAny_standAt
noncomputable section
set_option Elab.async false
set_option linter.all false
set_option maxRecDepth 100000
set_option maxHeartbeats 4000000
abbrev Z1:=Nat->Nat->Option Int
abbrev Z2:=List (List Int)
abbrev Z3:=List (PySem.Addr×PySem.Obj)
abbrev Z4:=List (Option Int)
abbrev Z5:=PySem.Value->PySem.Shared->Prop
abbrev Z6:=PySem.Str->Option PySem.Value
def S2.bdI{c k:Nat}(h:c<=k)(hk:k<=1000000):-1000000<=(c:Int)/\(c:Int)<=1000000:=⟨Int.le_trans (by decide) (Int.natCast_nonneg c),Int.ofNat_le.mpr (yas h hk)⟩
def S2.bdN{c k:Nat}(h:c<=k)(hk:k<=1000000):0<=(c:Int)/\(c:Int)<=1000000:=⟨Int.natCast_nonneg c,Int.ofNat_le.mpr (yas h hk)⟩
local macro_rules | `(tactic| omega) => `(tactic| first | assumption | exact yas (by assumption) (by decide) | exact yak (by assumption) (by assumption) | exact yak (by assumption) (by decide) | exact ycG (by assumption) | exact S2.bdI (by assumption) (by decide) | exact yas (by assumption) (by assumption) | omega +splitDisjunctions)
namespace L2
open PySem PySem.Spec PyProof.Rows
noncomputable abbrev Key:=Sum Int Str
noncomputable def zqA:Key->Value->Bool
 | .inl k,v=>Value.isInt k v
 | .inr x,v=>Value.isStrOf x v
noncomputable def zwB(w:World):Key->Int
 | .inl k=>hashInt k
 | .inr x=>hashStr w x
theorem zax:∀{k:Key} {v:Value},zqA k v=true->(∃i t,k=Sum.inl i/\v=Value.int i t)\/(∃x t,k=Sum.inr x/\v=Value.str x t)
 | .inl i,v,h=>by
  obtain ⟨t,e⟩:=ydd (k:=i) (v:=v) h;exact .inl ⟨i,t,rfl,e⟩
 | .inr x,v,h=>by
  obtain ⟨t,e⟩:=Value.isStrOf_shape (x:=x) (v:=v) h;exact .inr ⟨x,t,rfl,e⟩
def zqz(a b:Int):decide ((Sum.inl a:Key)=Sum.inl b)=(a == b):=by
 by_cases e:a=b
 ·subst e;simp
 ·have h:¬ (Sum.inl a:Key)=Sum.inl b:=fun q=>e (Sum.inl.inj q)
  rw [ya4 h];exact (ya0.mpr e).symm
def zqw(a b:Str):decide ((Sum.inr a:Key)=Sum.inr b)=decide (a=b):=by
 by_cases e:a=b
 ·subst e;simp
 ·have h:¬ (Sum.inr a:Key)=Sum.inr b:=fun q=>e (Sum.inr.inj q)
  rw [ya4 h,ya4 e]
def zqy(a:Int)(b:Str):decide ((Sum.inl a:Key)=Sum.inr b)=false:=ya4 (fun q=>nomatch q)
def zqx(a:Str)(b:Int):decide ((Sum.inr a:Key)=Sum.inl b)=false:=ya4 (fun q=>nomatch q)
def zgf(prog:Program)(w:World):PySem.KeyKind prog w Key where
 is:=zqA
 hash:=zwB w
 inj:=fun v a b ha hb=>by
  rcases zax ha with ⟨i,t,rfl,rfl⟩ | ⟨x,t,rfl,rfl⟩
  ·rcases zax hb with ⟨j,u,rfl,e⟩ | ⟨y,u,rfl,e⟩
   ·injection e with e1 _;rw [e1]
   ·exact nomatch e
  ·rcases zax hb with ⟨j,u,rfl,e⟩ | ⟨y,u,rfl,e⟩
   ·exact nomatch e
   ·injection e with e1 _;rw [e1]
 byValue:=fun k v h=>by
  rcases zax h with ⟨i,t,rfl,rfl⟩ | ⟨x,t,rfl,rfl⟩<;>rfl
 pyHash:=fun hv h=>by
  rcases zax hv with ⟨i,t,rfl,rfl⟩ | ⟨x,t,rfl,rfl⟩
  ·exact wpAny_pyHash_int h
  ·exact wpAny_pyHash_str h
 eqBool:=fun hu hv h=>by
  rcases zax hu with ⟨i,t,rfl,rfl⟩ | ⟨x,t,rfl,rfl⟩
  ·rcases zax hv with ⟨j,u,rfl,rfl⟩ | ⟨y,u,rfl,rfl⟩
   ·rw [zqz] at h;exact wpAny_eqBool_int h
   ·rw [zqy] at h;exact SeqAt.EqAt.int_str i t y u _ _ _ _ h
  ·rcases zax hv with ⟨j,u,rfl,rfl⟩ | ⟨y,u,rfl,rfl⟩
   ·rw [zqx] at h;exact SeqAt.EqAt.str_int x t j u _ _ _ _ h
   ·rw [zqw] at h;exact wpAny_eqBool_str h
 «strs»:=fun k x t v h=>by
  rcases zax h with ⟨i,u,rfl,e⟩ | ⟨y,u,rfl,e⟩
  ·exact nomatch e
  ·injection e with e1 _
   subst e1
   cases v<;>rfl
inductive V where
 | non | bl (b:Bool) | int (i:Int) | str (x:Str) | byt (b:Array UInt8) | flt (b:UInt64) | ref (a:Addr) | ty (n:String)
 deriving DecidableEq
noncomputable def zaI:V->Value->Prop
 | .non,u=>u=Value.none
 | .bl b,u=>u=Value.bool b
 | .int i,u=>∃t,u=Value.int i t
 | .str x,u=>∃t,u=Value.str x t
 | .byt b,u=>∃t,u=Value.bytes b t
 | .flt b,u=>∃t,u=Value.float b t
 | .ref a,u=>u=Value.ref a
 | .ty n,u=>u=Value.type n
noncomputable abbrev Vals:List V->List Value->Prop:=Paired zaI
theorem Vals.length(r:Vals xs us):xs.length=us.length:=Paired.length r
theorem Vals.get:∀{xs:List V} {us:List Value} {i:Nat} {x:V},Vals xs us->xs[i]?=some x->∃u,us[i]?=some u/\zaI x u
 | _,_,_,_,.nil,e=>by simp at e
 | _,_,0,_,.cons r _,e=>by simp at e;subst e;exact ⟨_,rfl,r⟩
 | _,_,i+1,x,.cons _ t,e=>by
  obtain ⟨u,h1,h2⟩:=Vals.get (i:=i) (x:=x) t (by simpa using e);exact ⟨u,by simpa using h1,h2⟩
theorem Vals.set{x:V}{u:Value}(r:zaI x u):∀{xs:List V} {us:List Value} (i:Nat),Vals xs us->Vals (xs.set i x) (us.set i u)
 | _,_,_,.nil=>.nil
 | _,_,0,.cons _ t=>.cons r t
 | _,_,i+1,.cons q t=>.cons q (Vals.set r i t)
theorem Vals.append:∀{xs ys:List V} {us ws:List Value},Vals xs us->Vals ys ws->Vals (xs++ys) (us++ws)
 | _,_,_,_,.nil,s=>s
 | _,_,_,_,.cons r t,s=>.cons r (Vals.append t s)
theorem Vals.take:∀{xs:List V} {us:List Value} (n:Nat),Vals xs us->Vals (xs.take n) (us.take n)
 | _,_,0,_=>.nil
 | _,_,_+1,.nil=>.nil
 | _,_,n+1,.cons r t=>.cons r (Vals.take n t)
theorem Vals.drop:∀{xs:List V} {us:List Value} (n:Nat),Vals xs us->Vals (xs.drop n) (us.drop n)
 | _,_,0,r=>r
 | _,_,_+1,.nil=>.nil
 | _,_,n+1,.cons _ t=>Vals.drop n t
noncomputable def zkf:Option V->Option Value->Prop
 | some v,some u=>zaI v u
 | none,none=>True
 | _,_=>False
noncomputable def KV{κ:Type}:List (κ×V)->List (κ×Value)->Prop:=Paired fun (p:κ×V) (q:κ×Value)=>p.1=q.1/\zaI p.2 q.2
noncomputable def kV:Key->V
 | .inl i=>.int i
 | .inr x=>.str x
inductive HO where
 | lst (xs:List V)
 | tup (xs:List V)
 | dK (kvs:List (Key×V)) | dT (kvs:List (List Key×V))
 | set (S:Int->Bool) (n:Nat)
 | ins (C dx:Addr) (fs:List (Str×V))
 | own (x:Addr)
 | xd (fs:List (Str×V))
 | met (f x:Addr)
 | rng (lo hi:Int)
 | frz (o:Obj) (u:HO)
 | tbl (ps:Array Value)
 | ext (φ:Heap->Prop)
noncomputable abbrev Hp:=Addr->Option HO
noncomputable def upd(H:Hp)(a:Addr)(o:HO):Hp:=fun b=>if b=a then some o else H b
def zaj:upd H a o a=some o:=by unfold upd;rw [if_pos rfl]
def zad(h:b≠a):upd H a o b=H b:=by unfold upd;rw [if_neg h]
def zam{H:Hp}{a b:Addr}{o:HO}(h:H a=some o)(h':H b=none):a≠b:=by
 intro e;subst e;rw [h] at h';cases h'
noncomputable def zkh(h:Heap)(a:Addr)(items:Array Value):Prop:=∃o,h.get? a=some o/\o.cls=.type "tuple" /\ ∃n,o.data=.seq items n/\o.dict=none
theorem zkh.t{h:Heap}{a:Addr}{items:Array Value}:zkh h a items->IsTup h a items | ⟨o,e,c,n,d,_⟩=>⟨o,e,c,n,d⟩
def zkh.new(h:Heap)(items:Array Value):zkh (h.push { cls:=.type "tuple",data:=.seq items }) h.objs.size items:=⟨_,yag _ rfl,rfl,_,rfl,rfl⟩
section
variable(P:Program)(w:World)
def zaX(H:Hp)(h:Heap)(a:Addr):HO->Prop
 | .lst xs=>xs.length<=sizeLine/\∃(its:List Value) (n:Nat),Vals xs its/\h.get? a=some { cls:=.type "list",data:=.seq its.toArray n }
 | .tup xs=>xs.length<=sizeLine/\∃its:List Value,Vals xs its/\zkh h a its.toArray
 | .dK kvs=>kvs.length<=sizeLine/\(a == sysModules)=false/\∃vs,KV kvs vs/\h.DictOf (zgf P w) a vs
 | .dT kvs=>kvs.length<=sizeLine/\(a == sysModules)=false/\∃xs:List (List Key×Addr×Value),
   Paired (fun (p:List Key×V) (q:List Key×Addr×Value)=>p.1=q.1/\H q.2.1=some (.tup (p.1.map kV))/\zaI p.2 q.2.2) kvs xs ∧
   ∃o es ep,h.get? a=some o/\o.ExactDict/\o.data=.dict es ep/\es.toList=xs.map (entryOfKey (tupleKind (zgf P w)))/\(xs.map (·.1)).Nodup
 | .set S n=>h.SetOf (intKind P w) a S n
 | .ins C dx fs=>H dx=some (.own a)/\fs.length<=1000/\dx≠a/\h.get? a=some (PySem.W.instObj C dx) ∧
   ∃mA,h.Ns1 dx mA/\(∀f,zkf (fs.lookup f) (mA f))/\PySem.Within mA (fs.map (·.1))
 | .own _=>∃o,h.get? a=some o
 | .xd fs=>∃mA,h.Ns1 a mA/\∀f,zkf (fs.lookup f) (mA f)
 | .rng lo hi=>∃t u v,h.get? a=some { cls:=.type "range",data:=.fields #[.int lo t,.int hi u,.int 1 v] }
 | .frz o u=>h.get? a=some o/\zaX H h a u
 | .tbl ps=>h.get? a=some { cls:=.none,data:=.fields ps }
 | .met f x=>h.get? a=some (PySem.W.methodObj (.ref f) (.ref x))
 | .ext φ=>φ h/\(∃o,h.get? a=some o)/\∀h1 h2:Heap,φ h1->(∀o,h1.get? a=some o->h2.get? a=some o)->φ h2
noncomputable def HOk(H:Hp)(h:Heap):Prop:=∀a o,H a=some o->zaX P w H h a o
end
section
variable{P:Program}{w:World}{H H':Hp}{h h':Heap}{a:Addr}{o:HO}
theorem zaX.lt(x:zaX P w H h a o):a<h.objs.size:=by
 cases o with
 | lst xs=>obtain ⟨_,_,_,_,e⟩:=x;exact yaj e
 | tup xs=>obtain ⟨_,_,_,p⟩:=x;exact p.t.lt
 | dK kvs=>obtain ⟨_,_,_,_,o,_,_,e,_⟩:=x;exact yaj e
 | dT kvs=>obtain ⟨_,_,_,_,o,_,_,e,_⟩:=x;exact yaj e
 | set S n=>obtain ⟨o,_,_,_,e,_⟩:=x;exact yaj e
 | ins C dx fs=>obtain ⟨_,_,_,e,_⟩:=x;exact yaj e
 | own y=>obtain ⟨_,e⟩:=x;exact yaj e
 | xd fs=>obtain ⟨_,⟨_,_,_,e,_⟩,_⟩:=x;exact yaj e
 | rng lo hi=>obtain ⟨_,_,_,e⟩:=x;exact yaj e
 | frz ob u=>obtain ⟨e,_⟩:=x;exact yaj e
 | tbl ps=>exact yaj (show h.get? a=some _ from x)
 | met f y=>exact yaj (show h.get? a=some _ from x)
 | ext φ=>obtain ⟨_,⟨_,e⟩,_⟩:=x;exact yaj e
theorem Paired.mapP{α β:Type}{F G:α->β->Prop}:∀{l₁:List α} {l₂:List β},Paired F l₁ l₂->(∀a b,F a b->G a b)->Paired G l₁ l₂
 | _,_,.nil,_=>.nil
 | _,_,.cons r t,f=>.cons (f _ _ r) (Paired.mapP t f)
def zaX.stay(x:zaX P w H h a o)(k:∀b u,(b=a\/H b=some (.own a))->h.get? b=some u->h'.get? b=some u)
  (ho:∀b,H b=some (.own a)->H' b=some (.own a)) (ht:∀b xs,H b=some (.tup xs)->H' b=some (.tup xs)):zaX P w H' h' a o:=by
 induction o with
 | lst xs=>obtain ⟨z,its,n,r,e⟩:=x;exact ⟨z,its,n,r,k _ _ (.inl rfl) e⟩
 | tup xs=>obtain ⟨z,its,r,ob,e,c⟩:=x;exact ⟨z,its,r,ob,k _ _ (.inl rfl) e,c⟩
 | dK kvs=>obtain ⟨z,y,vs,r,ob,es,ep,e,c⟩:=x;exact ⟨z,y,vs,r,ob,es,ep,k _ _ (.inl rfl) e,c⟩
 | dT kvs =>
  obtain ⟨z,y,xs,r,ob,es,ep,e,c⟩:=x;exact ⟨z,y,xs,Paired.mapP r fun p q z=>⟨z.1,ht _ _ z.2.1,z.2.2⟩,ob,es,ep,k _ _ (.inl rfl) e,c⟩
 | set S n=>obtain ⟨ob,es,ep,t,e,c⟩:=x;exact ⟨ob,es,ep,t,k _ _ (.inl rfl) e,c⟩
 | ins C dx fs =>
  obtain ⟨d,z,ne,e,mA,⟨od,es,ep,e2,c⟩,r⟩:=x;exact ⟨ho _ d,z,ne,k _ _ (.inl rfl) e,mA,⟨od,es,ep,k _ _ (.inr d) e2,c⟩,r⟩
 | own y=>obtain ⟨ob,e⟩:=x;exact ⟨ob,k _ _ (.inl rfl) e⟩
 | xd fs=>obtain ⟨mA,⟨od,es,ep,e,c⟩,r⟩:=x;exact ⟨mA,⟨od,es,ep,k _ _ (.inl rfl) e,c⟩,r⟩
 | rng lo hi=>obtain ⟨t,u,v,e⟩:=x;exact ⟨t,u,v,k _ _ (.inl rfl) e⟩
 | frz ob u ih=>obtain ⟨e,q⟩:=x;exact ⟨k _ _ (.inl rfl) e,ih q⟩
 | tbl ps =>
  have e:h.get? a=some { cls:=.none,data:=.fields ps }:=x;show h'.get? a=some { cls:=.none,data:=.fields ps };exact k a _ (.inl rfl) e
 | met f y =>
  have e:h.get? a=some (PySem.W.methodObj (.ref f) (.ref y)):=x;show h'.get? a=some (PySem.W.methodObj (.ref f) (.ref y));exact k a _ (.inl rfl) e
 | ext φ=>obtain ⟨p,⟨o,e⟩,st⟩:=x;exact ⟨st _ _ p fun o q=>k _ _ (.inl rfl) q,⟨o,k _ _ (.inl rfl) e⟩,st⟩
theorem HOk.lt(x:HOk P w H h)(e:H a=some o):a<h.objs.size:=(x a o e).lt
def HOk.fresh(x:HOk P w H h)(e:h.objs.size<=a):H a=none:=by
 cases q:H a with
 | none=>rfl
 | some u=>exact absurd (yak (x.lt q) e) (yaL _)
def HOk.kept(x:HOk P w H h)(k:∀b u,h.get? b=some u->h'.get? b=some u):HOk P w H h':=fun a o e =>
 (x a o e).stay (fun b u _ q=>k b u q) (fun _ q=>q) fun _ _ q=>q
def HOk.laid(x:HOk P w H h)(k:∀b u,h.get? b=some u->h'.get? b=some u)(hp:h.objs.size<=a)(new:zaX P w (upd H a o) h' a o):HOk P w (upd H a o) h':=fun b u e=>by
 have hn:=x.fresh hp
 by_cases hb:b=a
 ·subst hb;rw [zaj] at e;cases e;exact new
 ·rw [zad hb] at e
  exact (x b u e).stay (fun c v _ q=>k c v q) (fun c q=>by rw [zad (zam q hn)];exact q) fun c xs q=>by rw [zad (zam q hn)];exact q
end
noncomputable def Rd(H:Hp)(a:Addr)(u:HO):Prop:=H a=some u\/∃o,H a=some (.frz o u)
def Rd.ok(r:Rd H a u)(x:HOk P w H h):zaX P w H h a u:=by
 rcases r with r | ⟨o,r⟩
 ·exact x a u r
 ·obtain ⟨_,q⟩:=x a _ r;exact q
noncomputable def Mut:Option HO->Prop
 | some (.lst _)=>True
 | some (.dK _)=>True
 | some (.dT _)=>True
 | some (.set _ _)=>True
 | some (.ins _ _ _)=>True
 | some (.ext _)=>True
 | _=>False
section
variable{P:Program}{w:World}{H:Hp}{h h':Heap}{x e:Addr}{o':HO}
def HOk.write(ok:HOk P w H h)(mu:Mut (H x))(he:e=x\/H e=some (.own x))(k:∀b u,b≠e->h.get? b=some u->h'.get? b=some u)(heo:∃u,h'.get? e=some u)
  (new:zaX P w (upd H x o') h' x o'):HOk P w (upd H x o') h':=fun b u q=>by
 have nown:∀c y,H c=some (.own y)->c≠x:=fun c y r z=>by subst z;rwa [r] at mu
 have ntup:∀c xs,H c=some (.tup xs)->c≠x:=fun c xs r z=>by subst z;rwa [r] at mu
 by_cases hb:b=x
 ·subst hb;rw [zaj] at q;cases q;exact new
 ·rw [zad hb] at q
  by_cases hbe:b=e
  ·have q':H b=some (.own x):=by
    rcases he with z | z
    ·exact absurd (hbe.trans z) hb
    ·rw [hbe];exact z
   rw [q] at q';cases q';obtain ⟨v,hv⟩:=heo;exact ⟨v,by rw [hbe];exact hv⟩
  ·refine (ok b u q).stay (fun c v hc r=>k c v ?_ r) (fun c r=>by rw [zad (nown c b r)];exact r) fun c xs r=>by rw [zad (ntup c xs r)];exact r
   rcases hc with rfl | hc
   ·exact hbe
   ·rintro rfl
    rcases he with z | z
    ·exact nown c b hc z
    ·rw [hc] at z;cases z;exact hb rfl
end
structure Un(fs ex:List Addr)(H H':Hp)(h h':Heap):Prop where
 keep:∀b o,h.get? b=some o->H b=none->b ∉ fs->b ∉ ex->h'.get? b=some o
 slot:∀b o,h.get? b=some o->H b=none->b∈fs->b ∉ ex->∃sl,h'.get? b=some { o with slots:=sl }
 free:∀b o,h.get? b=some o->H b=none->b ∉ ex->H' b=none
 there:∀b o,h.get? b=some o->b ∉ ex->∃o',h'.get? b=some o'
 tups:∀b xs,H b=some (.tup xs)->H' b=some (.tup xs)
 frzs:∀b o u,H b=some (.frz o u)->H' b=some (.frz o u)
 tbls:∀b ps,H b=some (.tbl ps)->∃more,H' b=some (.tbl (ps++more))
section
variable{fs fs' ex ex':List Addr}{H H1 H2:Hp}{h h1 h2 h':Heap}{a x e:Addr}{o:HO}
def Un.any(u:Un fs ex H H1 h h1)(q:h.get? b=some ob)(n:H b=none)(hx:b ∉ ex):∃sl,h1.get? b=some { ob with slots:=sl }:=by
 by_cases hb:b∈fs
 ·exact u.slot b ob q n hb hx
 ·exact ⟨ob.slots,u.keep b ob q n hb hx⟩
def Un.kept(k:∀b u,h.get? b=some u->h'.get? b=some u):Un fs ex H H h h' :=
 ⟨fun b ob q _ _ _=>k b ob q,fun b ob q _ _ _=>⟨ob.slots,k b ob q⟩,fun _ _ _ n _=>n,fun b ob q _=>⟨ob,k b ob q⟩,fun _ _ q=>q,fun _ _ _ q=>q,fun _ ps q=>⟨#[],by rw [q];simp⟩⟩
def Un.refl:Un fs ex H H h h:=Un.kept fun _ _ q=>q
def Un.laid(k:∀b u,h.get? b=some u->h'.get? b=some u)(hp:h.objs.size<=a)(hn:H a=none):Un fs ex H (upd H a o) h h' where
 keep:=fun b u q _ _ _=>k b u q
 slot:=fun b u q _ _ _=>⟨u.slots,k b u q⟩
 free:=fun b u q n _=>by rw [zad (yap (yak (yaj q) hp))];exact n
 there:=fun b u q _=>⟨u,k b u q⟩
 tups:=fun b xs q=>by rw [zad (zam q hn)];exact q
 frzs:=fun b u xs q=>by rw [zad (zam q hn)];exact q
 tbls:=fun b ps q=>⟨#[],by rw [zad (zam q hn),q];simp⟩
def Un.write(mu:Mut (H x))(he:e=x\/H e=some (.own x))(k:∀b u,b≠e->h.get? b=some u->h'.get? b=some u)(heo:∃u,h'.get? e=some u):Un fs ex H (upd H x o) h h':=by
 have hx:∀b,H b=none->b≠x:=fun b n z=>by subst z;rwa [n] at mu
 have hb:∀b,H b=none->b≠e:=fun b n z=>by
  subst z
  rcases he with r | r
  ·exact hx b n r
  ·rw [n] at r;cases r
 have hm:∀b u,H b=some u->¬ Mut (some u)->b≠x:=fun b u q nm z=>by subst z;rw [q] at mu;exact nm mu
 refine ⟨fun b u q n _ _=>k b u (hb b n) q,fun b u q n _ _=>⟨u.slots,k b u (hb b n) q⟩,fun b u q n _=>by rw [zad (hx b n)];exact n,fun b u q _=>?_,
  fun b xs q=>by rw [zad (hm b _ q fun z=>z)];exact q,fun b u xs q=>by rw [zad (hm b _ q fun z=>z)];exact q,fun b ps q=>⟨#[],by rw [zad (hm b _ q fun z=>z),q];simp⟩⟩
 by_cases hbe:b=e
 ·subst hbe;exact heo
 ·exact ⟨u,k b u hbe q⟩
end
noncomputable def trk(h:Heap)(H:Hp):List Addr:=(List.range h.objs.size).filter fun a=>(H a).isSome
def zjy(h:Heap)(H:Hp):Heap:=PySem.W.hideAll h (trk h H)
def zjx(h:Heap)(H:Hp):(zjy h H).objs.size=h.objs.size:=PySem.W.hideAll_size _ _
def zlo(e:h.get? b=some o)(n:H b=none):(zjy h H).get? b=some o :=
 PySem.W.hideAll_get _ e fun hm=>by
  have q:(H b).isSome=true:=(ycW.mp hm).2;rw [n] at q;simp at q
def znO(e:(zjy h H).get? b=some o):h.get? b=some o/\H b=none:=by
 have e':h.get? b=some o:=PySem.W.of_hideAll (trk h H) e;refine ⟨e',?_⟩
 cases q:H b with
 | none=>rfl
 | some x =>
  have hm:b∈trk h H:=ycW.mpr ⟨ycf.mpr (yaj e'),by simp [q]⟩;have z:(zjy h H).get? b=none:=PySem.W.hideAll_none (trk h H) hm;rw [z] at e;cases e
noncomputable def zoH(g h:Heap)(L:Addr):List (Addr×Obj):=(List.range h.objs.size).filterMap fun a=>if a=L\/(g.get? a).isSome=true then none else (h.get? a).map fun o=>(a,o)
def za9(g h:Heap)(L d:Addr):List (Addr×Obj):=(zoH g h L).filter fun p=>decide (p.1≠d)
structure Mod(K:PySem.W.Frag)(mg:Z6)(base:Heap):Prop where
 kin:K.In base
 glob:base.Ns mainGlobals mg
 blt:∃mb,base.Ns builtinsNs mb/\∀x:Str,x ≠ "__name__" -> mb x=bootBuiltins x
 nolimit:base.NoLimit
structure Cx where
 prog:Program
 w:World
 K:PySem.W.Frag
 mg:Str->Option Value
 base:Heap
 A:Around
 N:List Str
 s₀:Shared
 H₀:Hp
 env:Env
 outer:List Env
 stack:List Env
 ex:List Addr
 fn:Str->Bool
 calm:Bool
 pn:List (Addr×Obj)
 xe:Value->Shared->Prop
noncomputable def frs(l:List Env):List Addr:=l.filterMap (·.frame)
noncomputable abbrev Cx.fs(X:Cx):List Addr:=frs X.outer
noncomputable def Vis(sc:Scope)(x:Str):Prop:=sc.names.lookup x=some .local\/sc.names.lookup x=some .cell\/sc.names.lookup x=some .free
noncomputable def Loc(sc:Scope)(x:Str):Prop:=sc.names.lookup x=some .local\/sc.names.lookup x=some .cell
noncomputable def zxn(env:Env)(h:Heap)(m:Z6)(x:Str)(u:Value):Prop :=
 (env.kindOf x=some .local/\m x=some u)\/((env.kindOf x=some .cell\/env.kindOf x=some .free)/\∃c,env.cells.lookup x=some c/\h.IsCell c (some u))
structure Cx.Ok(X:Cx):Prop where
 mod:Mod X.K X.mg X.base
 kind:X.env.scope.kind=.function
 glob:X.env.globals=mainGlobals
 blt:X.env.builtins=builtinsNs
 above:X.s₀.heap.objs.size<=X.env.locals
 inj:∀x y c,X.env.cells.lookup x=some c->X.env.cells.lookup y=some c->x=y
 has:∀x,(X.env.kindOf x=some .cell\/X.env.kindOf x=some .free)->∃c,X.env.cells.lookup x=some c
 cab:∀x c,X.fn x=true->X.env.cells.lookup x=some c->X.s₀.heap.objs.size<=c
 hd:X.calm=true->X.A.handled=none
 frames:X.A.frames=some X.stack
 stk:X.stack=X.outer\/(X.stack=X.env::X.outer/\X.env.frame=some X.env.locals)
 exf:∀b∈X.ex,b≠X.env.locals/\∀x c,X.env.cells.lookup x=some c->c≠b
 bs:∀b o,X.base.get? b=some o->X.s₀.heap.get? b=some o/\X.H₀ b=none
 bsz:X.base.objs.size<=X.s₀.heap.objs.size
 noex:∀b o,X.base.get? b=some o->b ∉ X.ex
 exfs:∀b∈X.ex,b ∉ X.fs
 funs:X.s₀.heap.FunFrames X.base X.outer
 frf:∀b∈X.fs,X.H₀ b=none
structure Inv(X:Cx)(pins:Z3)(σ:List (Option V))(H:Hp)(s:Shared):Prop where
 ok:X.Ok
 os:s.os=X.s₀.os
 bare:AllBare s.gens
 base:Un X.fs X.ex X.H₀ H X.s₀.heap s.heap
 loc:∃m,s.heap.Ns X.env.locals m/\∀(i:Nat) (x:Str) (v:V),X.N[i]?=some x->σ[i]?=some (some v)->Vis X.env.scope x->∃u,zaI v u/\zxn X.env s.heap m x u
 cell:∀x c,X.env.cells.lookup x=some c->∃v,s.heap.IsCell c v
 free:H X.env.locals=none
 freeC:∀x c,X.env.cells.lookup x=some c->H c=none
 pin:∀p∈X.pn++pins,s.heap.get? p.1=some p.2/\H p.1=none/\p.1≠X.env.locals/\p.1 ∉ X.fs/\∀v,p.2.data≠.cell v
 hok:HOk X.prog X.w H s.heap
 len:σ.length=X.N.length
section
variable{X:Cx}{pins:Z3}{σ:List (Option V)}{H H':Hp}{s:Shared}{h':Heap}
def Cx.Ok.nofr(ok:X.Ok)(e:X.base.get? b=some o):b ∉ X.fs:=fun hb=>by
 have:=(ok.funs.mem hb).1;rw [e] at this;cases this
theorem Inv.bs(I:Inv X pins σ H s):∀b o,X.base.get? b=some o->s.heap.get? b=some o/\H b=none:=fun b o e =>
 ⟨I.base.keep b o (I.ok.bs b o e).1 (I.ok.bs b o e).2 (I.ok.nofr e) (I.ok.noex b o e),I.base.free b o (I.ok.bs b o e).1 (I.ok.bs b o e).2 (I.ok.noex b o e)⟩
def Inv.bk(I:Inv X pins σ H s):∀b o,X.base.get? b=some o->s.heap.get? b=some o:=fun b o e=>(I.bs b o e).1
theorem Inv.mod(I:Inv X pins σ H s):Mod X.K X.mg X.base:=I.ok.mod
def Inv.kIn(I:Inv X pins σ H s):X.K.In s.heap:=I.ok.mod.kin.keeps I.bk
theorem Inv.lt(I:Inv X pins σ H s):X.env.locals<s.heap.objs.size:=let ⟨_,hn,_⟩:=I.loc;hn.lt
def Inv.sz(I:Inv X pins σ H s):X.s₀.heap.objs.size<=s.heap.objs.size:=yas I.ok.above (ycG I.lt)
def Inv.nofs(I:Inv X pins σ H s)(h:s.heap.objs.size<=a):a ∉ X.fs:=fun hb=>by
 obtain ⟨_,o,ho,_⟩:=I.ok.funs.mem hb;exact absurd (yak (yaj ho) (yas I.sz h)) (yaL _)
def Inv.cne(I:Inv X pins σ H s):∀x c,X.env.cells.lookup x=some c->c≠X.env.locals:=fun x c e z=>by
 obtain ⟨v,o,ho,hd⟩:=I.cell x c e;obtain ⟨m,⟨o',es,ep,ho',hd',_⟩,_⟩:=I.loc;rw [z,ho'] at ho;cases ho;rw [hd'] at hd;cases hd
theorem Inv.funs(I:Inv X pins σ H s):s.heap.FunFrames X.base X.outer:=by
 have all:∀(l:List Env),(∀b∈frs l,b∈X.fs)->X.s₀.heap.FunFrames X.base l->s.heap.FunFrames X.base l:=by
  intro l
  induction l with
  | nil=>intro _ _;trivial
  | cons env r ih =>
   intro hs hl;obtain ⟨hk,⟨L,o,hf,hn,ho,hd⟩,hr⟩:=hl;have hL:L∈X.fs:=hs L (by unfold frs;rw [ybG,hf];exact yaE);obtain ⟨sl,e⟩:=I.base.slot L o ho (I.ok.frf L hL) hL fun z=>I.ok.exfs L z hL
   exact ⟨hk,⟨L,_,hf,hn,e,hd⟩,ih (fun b hb=>hs b (by unfold frs;rw [ybG,hf];exact yar _ hb)) hr⟩
 exact all X.outer (fun _ hb=>hb) I.ok.funs
theorem Inv.stack(I:Inv X pins σ H s):s.heap.FunFrames X.base X.stack:=by
 rcases I.ok.stk with e | ⟨e,hf⟩
 ·rw [e];exact I.funs
 ·rw [e];obtain ⟨m,hn,_⟩:=I.loc;refine .cons (by rw [I.ok.kind];decide) hf hn ?_ I.funs;exact Heap.get?_none_of_le (yas I.ok.bsz I.ok.above)
def Inv.stkSub(I:Inv X pins σ H s):∀b∈frs X.stack,b∈X.env.locals::X.fs:=fun b hb=>by
 rcases I.ok.stk with e | ⟨e,hf⟩
 ·rw [e] at hb;exact yar _ hb
 ·rw [e] at hb;unfold frs at hb;rwa [ybG,hf] at hb
def Inv.stkFree(I:Inv X pins σ H s):∀b∈frs X.stack,H b=none:=fun b hb=>by
 rcases yan.mp (I.stkSub b hb) with e | hb
 ·rw [e];exact I.free
 ·obtain ⟨_,o,ho,_⟩:=I.ok.funs.mem hb;exact I.base.free b o ho (I.ok.frf b hb) fun z=>I.ok.exfs b z hb
def Inv.step{g':Array GenState}{t':Nat}{d':Drawn}{ch:List Addr}(I:Inv X pins σ H s)
  (hch:∀b∈ch,(b∈X.ex\/X.s₀.heap.objs.size<=b)/\b≠X.env.locals/\(∀x c,X.env.cells.lookup x=some c->c≠b)/\∀p∈X.pn++pins,p.1≠b)
  (keep:∀b o,b≠X.env.locals->b ∉ X.fs->b ∉ ch->s.heap.get? b=some o->H b=none->h'.get? b=some o)
  (slot:∀b o,b≠X.env.locals->b∈X.fs->b ∉ ch->s.heap.get? b=some o->H b=none->∃sl,h'.get? b=some { o with slots:=sl }) (free:∀b o,b ∉ ch->s.heap.get? b=some o->H b=none->H' b=none)
  (there:∀b o,b ∉ ch->s.heap.get? b=some o->∃o',h'.get? b=some o')
  (tups:∀b xs,H b=some (.tup xs)->H' b=some (.tup xs)) (frzs:∀b o u,H b=some (.frz o u)->H' b=some (.frz o u)) (tbls:∀b ps,H b=some (.tbl ps)->∃more,H' b=some (.tbl (ps++more)))
  (ns:∀m,s.heap.Ns X.env.locals m->h'.Ns X.env.locals m) (hok:HOk X.prog X.w H' h') (hg:AllBare g') :
  Inv X pins σ H' { s with heap:=h',gens:=g',drawn:=d',toks:=t' }:=by
 have neL:∀b o,X.s₀.heap.get? b=some o->b≠X.env.locals:=fun b o e=>yap (yak (yaj e) I.ok.above)
 have neC:∀b o,X.s₀.heap.get? b=some o->b ∉ X.ex->b ∉ ch:=fun b o e hx hb=>by
  rcases (hch b hb).1 with z | z
  ·exact hx z
  ·exact absurd (yak (yaj e) z) (yaL _)
 have cellK:∀x c,X.env.cells.lookup x=some c->∀v,s.heap.IsCell c v->h'.IsCell c v:=fun x c e v ⟨o,ho,hd⟩=>by
  have nch:c ∉ ch:=fun z=>(hch c z).2.2.1 x c e rfl
  by_cases hc:c∈X.fs
  ·obtain ⟨sl,q⟩:=slot c o (I.cne x c e) hc nch ho (I.freeC x c e);exact ⟨_,q,hd⟩
  ·exact ⟨o,keep c o (I.cne x c e) hc nch ho (I.freeC x c e),hd⟩
 refine ⟨I.ok,I.os,hg,⟨fun b o e n hb hx=>?_,fun b o e n hb hx=>?_,fun b o e n hx=>?_,fun b o e hx=>?_,fun b xs e=>tups b xs (I.base.tups b xs e),fun b o xs e=>frzs b o xs (I.base.frzs b o xs e),fun b ps e=>?_⟩,?_,fun x c e=>?_,?_,fun x c e=>?_,fun p hp=>?_,hok,I.len⟩
 ·exact keep b o (neL b o e) hb (neC b o e hx) (I.base.keep b o e n hb hx) (I.base.free b o e n hx)
 ·obtain ⟨sl,e1⟩:=I.base.slot b o e n hb hx;obtain ⟨sl',e2⟩:=slot b _ (neL b o e) hb (neC b o e hx) e1 (I.base.free b o e n hx);exact ⟨sl',e2⟩
 ·obtain ⟨o',e1⟩:=I.base.there b o e hx;exact free b o' (neC b o e hx) e1 (I.base.free b o e n hx)
 ·obtain ⟨o',e1⟩:=I.base.there b o e hx;exact there b o' (neC b o e hx) e1
 ·obtain ⟨m1,e1⟩:=I.base.tbls b ps e;obtain ⟨m2,e2⟩:=tbls b _ e1;exact ⟨m1++m2,by rw [e2,Array.append_assoc]⟩
 ·obtain ⟨m,hn,hl⟩:=I.loc;refine ⟨m,ns m hn,fun i x v e1 e2 e3=>?_⟩;obtain ⟨u,r,l⟩:=hl i x v e1 e2 e3;refine ⟨u,r,?_⟩
  rcases l with l | ⟨k,c,e,z⟩
  ·exact .inl l
  ·exact .inr ⟨k,c,e,cellK x c e _ z⟩
 ·obtain ⟨v,z⟩:=I.cell x c e;exact ⟨v,cellK x c e v z⟩
 ·obtain ⟨m,⟨o,_,_,ho,_⟩,_⟩:=I.loc;exact free _ o (fun z=>(hch _ z).2.1 rfl) ho I.free
 ·obtain ⟨v,o,ho,hd⟩:=I.cell x c e;exact free c o (fun z=>(hch c z).2.2.1 x c e rfl) ho (I.freeC x c e)
 ·obtain ⟨e,n,ne,nf,d⟩:=I.pin p hp;have nch:p.1 ∉ ch:=fun z=>(hch p.1 z).2.2.2 p hp rfl
  exact ⟨keep p.1 p.2 ne nf nch e n,free p.1 p.2 nch e n,ne,nf,d⟩
def Inv.un(I:Inv X pins σ H s)(u:Un X.fs [] H H' s.heap h')(hok:HOk X.prog X.w H' h'):Inv X pins σ H' { s with heap:=h',toks:=t' }:=by
 obtain ⟨m,⟨o,es,ep,ho,r⟩,_⟩:=id I.loc;obtain ⟨sl,hL⟩:=u.any ho I.free (by simp)
 exact I.step (g':=s.gens) (d':=s.drawn) (ch:=[]) (fun _ z=>nomatch z) (fun b o _ hb _ e n=>u.keep b o e n hb (by simp)) (fun b o _ hb _ e n=>u.slot b o e n hb (by simp)) (fun b o _ e n=>u.free b o e n (by simp)) (fun b o _ e=>u.there b o e (by simp)) u.tups u.frzs u.tbls (fun m' hm=>by
  obtain ⟨o',es',ep',ho',r'⟩:=hm;rw [ho] at ho';cases ho'
  exact ⟨_,es',ep',hL,r'⟩) hok I.bare
def Inv.call(I:Inv X pins σ H s)(u:Un (frs X.stack) ch H H' s.heap h')(hok:HOk X.prog X.w H' h')(hg:AllBare g')
  (hch:∀b∈ch,(b∈X.ex\/X.s₀.heap.objs.size<=b)/\b≠X.env.locals/\(∀x c,X.env.cells.lookup x=some c->c≠b)/\∀p∈X.pn++pins,p.1≠b) :
  Inv X pins σ H' { s with heap:=h',gens:=g',drawn:=d',toks:=t' }:=by
 obtain ⟨m,⟨o,es,ep,ho,r⟩,_⟩:=id I.loc;obtain ⟨sl,hL⟩:=u.any ho I.free fun z=>(hch _ z).2.1 rfl
 exact I.step (ch:=ch) hch (fun b o hL hb hc e n=>u.keep b o e n (fun z=>(yan.mp (I.stkSub b z)).elim hL hb) hc) (fun b o _ _ hc e n=>u.any e n hc) (fun b o hc e n=>u.free b o e n hc) (fun b o hc e=>u.there b o e hc) u.tups u.frzs u.tbls (fun m' hm=>by
  obtain ⟨o',es',ep',ho',r'⟩:=hm;rw [ho] at ho';cases ho'
  exact ⟨_,es',ep',hL,r'⟩) hok hg
def Inv.turned(I:Inv X pins σ H s)(k:∀b o,b≠it->s.heap.get? b=some o->h'.get? b=some o)(hn:H it=none)(hL:it≠X.env.locals)
  (h1:it∈X.ex\/X.s₀.heap.objs.size<=it) (h2:∀x c,X.env.cells.lookup x=some c->c≠it) (h3:∀p∈X.pn++pins,p.1≠it):Inv X pins σ H { s with heap:=h',toks:=t' }:=by
 have nit:∀b u,H b=some u->b≠it:=fun b u e z=>by rw [z,hn] at e;cases e
 refine I.step (g':=s.gens) (d':=s.drawn) (ch:=[it]) (fun b hb=>?_) (fun b o _ _ hc e _=>k b o (fun z=>hc (by simp [z])) e) (fun b o _ _ hc e _=>⟨o.slots,k b o (fun z=>hc (by simp [z])) e⟩) (fun _ _ _ _ n=>n)
  (fun b o hc e=>⟨o,k b o (fun z=>hc (by simp [z])) e⟩) (fun _ _ e=>e) (fun _ _ _ e=>e) (fun b ps e=>⟨#[],by rw [e];simp⟩) (fun m hm=>?_) (fun b u e=>?_) I.bare
 ·have e:b=it:=by simpa using hb
  subst e;exact ⟨h1,hL,h2,h3⟩
 ·obtain ⟨o,es,ep,ho,r⟩:=hm;exact ⟨o,es,ep,k _ o (Ne.symm hL) ho,r⟩
 ·refine (I.hok b u e).stay (fun c v hc q=>k c v ?_ q) (fun _ q=>q) fun _ _ q=>q
  rcases hc with z | z
  ·rw [z];exact nit b u e
  ·exact nit c _ z
def Inv.tok(I:Inv X pins σ H s)(t:Nat):Inv X pins σ H { s with toks:=t }:=I.un (h':=s.heap) (t':=t) Un.refl I.hok
theorem Inv.kept(I:Inv X pins σ H s)(k:∀b u,s.heap.get? b=some u->h'.get? b=some u):Inv X pins σ H { s with heap:=h',toks:=t' }:=I.un (Un.kept k) (I.hok.kept k)
theorem Inv.laid(I:Inv X pins σ H s)(k:∀b u,s.heap.get? b=some u->h'.get? b=some u)(hp:s.heap.objs.size<=a)(new:zaX X.prog X.w (upd H a o) h' a o) :
  Inv X pins σ (upd H a o) { s with heap:=h',toks:=t' }:=I.un (Un.laid k hp (I.hok.fresh hp)) (I.hok.laid k hp new)
theorem Inv.write(I:Inv X pins σ H s)(mu:Mut (H x))(he:e=x\/H e=some (.own x))(k:∀b u,b≠e->s.heap.get? b=some u->h'.get? b=some u)(heo:∃u,h'.get? e=some u)
  (new:zaX X.prog X.w (upd H x o) h' x o):Inv X pins σ (upd H x o) { s with heap:=h',toks:=t' }:=I.un (Un.write mu he k heo) (I.hok.write mu he k heo new)
def Inv.pins_of(I:Inv X pins σ H s)(h:∀p∈pins',s.heap.get? p.1=some p.2/\H p.1=none/\p.1≠X.env.locals/\p.1 ∉ X.fs/\∀v,p.2.data≠.cell v):Inv X pins' σ H s :=
 ⟨I.ok,I.os,I.bare,I.base,I.loc,I.cell,I.free,I.freeC,fun p hp=>(ybO.mp hp).elim (fun z=>I.pin p (ycP _ z)) (h p),I.hok,I.len⟩
def zey{N:List Str}(hN:N.Nodup){i j:Nat}{x:Str}(a:N[i]?=some x)(b:N[j]?=some x):i=j:=by
 obtain ⟨h1,e1⟩:=yai.mp a;obtain ⟨h2,e2⟩:=yai.mp b;exact (List.getElem_inj hN).mp (e1.trans e2.symm)
def zeZ{M:Model}{A:Around}{E:Z5}{i:Nat}{x:Str}{v:V}{u:Value}{Q:Unit->Shared->Prop}(I:Inv X pins σ H s)(hN:X.N.Nodup)(hi:X.N[i]?=some x)(hx:Loc X.env.scope x)(r:zaI v u)
  (h:∀s',Inv X pins (σ.set i (some v)) H s'->(∃a,Heap.SameBut a s.heap s'.heap/\(a=X.env.locals\/X.env.cells.lookup x=some a))->Q () s') (hf:X.fn x=true\/X.env.scope.names.lookup x=some .local:=by first | exact .inl rfl | exact .inr rfl | assumption):wpAny M A (storeName X.env x u) Q E s:=by
 obtain ⟨m,hn,hl⟩:=id I.loc
 have hcls:(X.env.scope.kind == .class||(X.env.scope.kind == .module&&X.env.locals != X.env.globals))=false:=by rw [I.ok.kind];rfl
 have hiσ:i<σ.length:=by rw [I.len];exact (yai.mp hi).1
 have cne:=I.cne
 have tracked:∀{a:Addr} {h':Heap},(∃o,s.heap.get? a=some o/\H a=none)->Heap.SameBut a s.heap h'->HOk X.prog X.w H h':=fun {a h'} ha hs b ob e=>by
  obtain ⟨_,_,hfree⟩:=ha;refine (I.hok b ob e).stay (fun c w' hc q=>(hs.2 c ?_).trans q) (fun _ q=>q) fun _ _ q=>q
  rintro rfl
  rcases hc with rfl | hc
  ·rw [hfree] at e;cases e
  ·rw [hfree] at hc;cases hc
 rcases hx with hk | hk
 ·refine wpAny_storeName_local hk hn (fun h' hn' hs=>?_) hcls;obtain ⟨oL,_,_,hoL,_⟩:=id hn;refine h _ ⟨I.ok,I.os,I.bare,⟨fun b o e n hb hx=>?_,fun b o e n hb hx=>?_,I.base.free,fun b o e hx=>?_,I.base.tups,I.base.frzs,I.base.tbls⟩,⟨_,hn',fun j y v' e1 e2 e3=>?_⟩,fun y c e=>?_,I.free,I.freeC,fun p hp=>?_,tracked ⟨oL,hoL,I.free⟩ hs,by simpa using I.len⟩ ⟨_,hs,.inl rfl⟩
  ·exact (hs.2 b (yap (yak (yaj e) I.ok.above))).trans (I.base.keep b o e n hb hx)
  ·obtain ⟨sl,e1⟩:=I.base.slot b o e n hb hx;exact ⟨sl,(hs.2 b (yap (yak (yaj e) I.ok.above))).trans e1⟩
  ·obtain ⟨o',e1⟩:=I.base.there b o e hx;exact ⟨o',(hs.2 b (yap (yak (yaj e) I.ok.above))).trans e1⟩
  ·by_cases hj:j=i
   ·subst hj;rw [hi] at e1;cases e1;rw [yay hiσ] at e2;cases e2;exact ⟨u,r,.inl ⟨hk,by simp⟩⟩
   ·rw [yaQ (Ne.symm hj)] at e2;obtain ⟨u',r',q⟩:=hl j y v' e1 e2 e3;refine ⟨u',r',?_⟩
    rcases q with ⟨k,e⟩ | ⟨k,c,e,z⟩
    ·refine .inl ⟨k,?_⟩;have:y≠x:=fun e=>hj (zey hN e1 (e ▸ hi))
     simp [this,e]
    ·exact .inr ⟨k,c,e,z.sameBut hs (cne y c e)⟩
  ·obtain ⟨w',z⟩:=I.cell y c e;exact ⟨w',z.sameBut hs (cne y c e)⟩
  ·obtain ⟨e,n,ne,nf,d⟩:=I.pin p hp;exact ⟨(hs.2 p.1 ne).trans e,n,ne,nf,d⟩
 ·have hfn:X.fn x=true:=by
   rcases hf with z | z
   ·exact z
   ·rw [z] at hk;cases hk
  obtain ⟨c,hc⟩:=I.ok.has x (.inl hk);obtain ⟨w',z⟩:=I.cell x c hc;refine wpAny_storeName_cell I.ok.kind hk hc z (fun h' hc' hs=>?_);obtain ⟨oc,hoc,hocd⟩:=id z;refine h { s with heap:=h' } ⟨I.ok,I.os,I.bare,⟨fun b o e n hb hx=>?_,fun b o e n hb hx=>?_,I.base.free,fun b o e hx=>?_,I.base.tups,I.base.frzs,I.base.tbls⟩,⟨m,hn.sameBut hs (Ne.symm (cne x c hc)),fun j y v' e1 e2 e3=>?_⟩,fun y c' e=>?_,I.free,I.freeC,fun p hp=>?_,tracked ⟨oc,hoc,I.freeC x c hc⟩ hs,by simpa using I.len⟩ ⟨c,hs,.inr hc⟩
  ·exact (hs.2 b (yap (yak (yaj e) (I.ok.cab x c hfn hc)))).trans (I.base.keep b o e n hb hx)
  ·obtain ⟨sl,e1⟩:=I.base.slot b o e n hb hx;exact ⟨sl,(hs.2 b (yap (yak (yaj e) (I.ok.cab x c hfn hc)))).trans e1⟩
  ·obtain ⟨o',e1⟩:=I.base.there b o e hx;exact ⟨o',(hs.2 b (yap (yak (yaj e) (I.ok.cab x c hfn hc)))).trans e1⟩
  ·by_cases hj:j=i
   ·subst hj;rw [hi] at e1;cases e1;rw [yay hiσ] at e2;cases e2;exact ⟨u,r,.inr ⟨.inl hk,c,hc,hc'⟩⟩
   ·rw [yaQ (Ne.symm hj)] at e2;obtain ⟨u',r',q⟩:=hl j y v' e1 e2 e3;refine ⟨u',r',?_⟩
    rcases q with q | ⟨k,c',e,z'⟩
    ·exact .inl q
    ·refine .inr ⟨k,c',e,z'.sameBut hs ?_⟩;rintro rfl;exact hj (zey hN e1 (I.ok.inj _ _ _ e hc ▸ hi))
  ·by_cases hcc:c'=c
   ·subst hcc;exact ⟨_,hc'⟩
   ·obtain ⟨w2,z2⟩:=I.cell y c' e;exact ⟨w2,z2.sameBut hs hcc⟩
  ·obtain ⟨e,n,ne,nf,d⟩:=I.pin p hp;refine ⟨(hs.2 p.1 ?_).trans e,n,ne,nf,d⟩;intro q;rw [q,hoc] at e;have q':oc=p.2:=Option.some.inj e;exact d w' (by rw [<-q'];exact hocd)
def zbt{M:Model}{A:Around}{E:Z5}{i:Nat}{x:Str}{v:V}{u:Value}{Q:Unit->Shared->Prop}(I:Inv X pins σ H s)(hN:X.N.Nodup)(hi:X.N[i]?=some x)(hx:Loc X.env.scope x)(r:zaI v u)
  (h:∀s',Inv X pins (σ.set i (some v)) H s'->Q () s') (hf:X.fn x=true\/X.env.scope.names.lookup x=some .local:=by first | exact .inl rfl | exact .inr rfl | assumption):wpAny M A (storeName X.env x u) Q E s :=
 zeZ I hN hi hx r (fun s' I' _=>h s' I') hf
def Inv.call'(I:Inv X pins σ H s)(ho:s'.os=s.os)(u:Un (frs X.stack) ch H H' s.heap s'.heap)(hok:HOk X.prog X.w H' s'.heap)(hg:AllBare s'.gens)
  (hch:∀b∈ch,(b∈X.ex\/X.s₀.heap.objs.size<=b)/\b≠X.env.locals/\(∀x c,X.env.cells.lookup x=some c->c≠b)/\∀p∈X.pn++pins,p.1≠b):Inv X pins σ H' s':=by
 obtain ⟨h',g',d',t',o'⟩:=s';have e:o'=s.os:=ho;subst e;exact I.call (g':=g') (t':=t') (d':=d') u hok hg hch
end
noncomputable abbrev XK:=Value->Option Addr->Hp->Prop
noncomputable abbrev St:=List (Option V)
noncomputable abbrev VK:=V->Hp->Prop
noncomputable abbrev TE:=St->Hp->VK->Prop
noncomputable abbrev TT:=St->Hp->(Bool->Hp->Prop)->Prop
noncomputable abbrev TA:=St->Hp->(List V->Hp->Prop)->Prop
structure Ends where
 nx:St->Hp->Prop
 rt:VK
 bk:St->Hp->Prop:=fun _ _=>False
 ct:St->Hp->Prop:=fun _ _=>False
noncomputable abbrev TS:=Ends->St->Hp->Prop
noncomputable def EP(X:Cx)(pins:Z3)(σ:St)(Q:VK)(u:Value)(s':Shared):Prop:=∃v H',Inv X pins σ H' s'/\zaI v u/\Q v H'
noncomputable def TP(X:Cx)(pins:Z3)(σ:St)(Q:Bool->Hp->Prop)(b:Bool)(s':Shared):Prop:=∃H',Inv X pins σ H' s'/\Q b H'
noncomputable def AP(X:Cx)(pins:Z3)(σ:St)(Q:List V->Hp->Prop)(us:List Value)(s':Shared):Prop:=∃vs H',Inv X pins σ H' s'/\Vals vs us/\Q vs H'
noncomputable def SP(X:Cx)(pins:Z3)(D:Ends)(f:Flow)(s':Shared):Prop :=
 match f with
 | .next=>∃σ' H',Inv X pins σ' H' s'/\D.nx σ' H'
 | .brk=>∃σ' H',Inv X pins σ' H' s'/\D.bk σ' H'
 | .cont=>∃σ' H',Inv X pins σ' H' s'/\D.ct σ' H'
 | .ret u=>∃v σ' H',Inv X pins σ' H' s'/\zaI v u/\D.rt v H'
noncomputable def PE(X:Cx)(e:Expr)(t:TE):Prop :=
 ∀(pins:Z3) (s:Shared) (σ:St) (H:Hp) (Q:VK),Inv X pins σ H s->t σ H Q->wpAny (model X.prog X.w) X.A (eval e X.env) (EP X pins σ Q) X.xe s
noncomputable def PT(X:Cx)(e:Expr)(t:TT):Prop :=
 ∀(pins:Z3) (s:Shared) (σ:St) (H:Hp) (Q:Bool->Hp->Prop),Inv X pins σ H s->t σ H Q->wpAny (model X.prog X.w) X.A (isTrue e X.env (eval e X.env)) (TP X pins σ Q) X.xe s
noncomputable def PW(X:Cx)(e:Expr)(t:TT):Prop :=
 ∀(whole:Sem Value) (pins:Z3) (s:Shared) (σ:St) (H:Hp) (Q:Bool->Hp->Prop),Inv X pins σ H s->t σ H Q->wpAny (model X.prog X.w) X.A (isTrue e X.env whole) (TP X pins σ Q) X.xe s
def PW.pt(h:PW X e t):PT X e t:=h _
noncomputable def PA(X:Cx)(es:List Expr)(t:TA):Prop :=
 ∀(pos:Pos) (pins:Z3) (s:Shared) (σ:St) (H:Hp) (Q:List V->Hp->Prop),Inv X pins σ H s->t σ H Q->wpAny (model X.prog X.w) X.A (spliced (backTo pos (starEach es X.env))) (AP X pins σ Q) X.xe s
noncomputable def PS(X:Cx)(st:Stmt)(t:TS):Prop :=
 ∀(pins:Z3) (s:Shared) (σ:St) (H:Hp) (D:Ends),Inv X pins σ H s->t D σ H->wpAny (model X.prog X.w) X.A (exec st X.env) (SP X pins D) X.xe s
noncomputable def PSs(X:Cx)(st:List Stmt)(t:TS):Prop :=
 ∀(pins:Z3) (s:Shared) (σ:St) (H:Hp) (D:Ends),Inv X pins σ H s->t D σ H->wpAny (model X.prog X.w) X.A (execs st X.env) (SP X pins D) X.xe s
def thn{α:Type}{t:Sem α}{Q Q':α->Shared->Prop}(h:wpAny M A t Q E s)(hQ:∀a s,Q a s->Q' a s):wpAny M A t Q' E s:=ybb h hQ fun _ _ x=>x
section
variable{X:Cx}
noncomputable def zuv(i:Nat):TE:=fun σ H Q=>∃v,σ[i]?=some (some v)/\Q v H
noncomputable def tC(v:V):TE:=fun _ H Q=>Q v H
def zaU{i:Nat}{x:Str}{pos:Pos}(hN:X.N[i]?=some x)(hv:Vis X.env.scope x)(hd:(x == ("__debug__":Str))=false:=by decide)(hcd:(x == ("__classdict__":Str))=false:=by decide):PE X (.Name x pos) (zuv i):=by
 intro pins s σ H Q I h;obtain ⟨v,e,h⟩:=h;obtain ⟨m,hn,hl⟩:=I.loc;obtain ⟨u,r,l⟩:=hl i x v hN e hv;have fin:EP X pins σ Q u s:=⟨v,H,I,r,h⟩
 rcases l with ⟨hk,hm⟩ | ⟨hk,c,hc,hcell⟩
 ·exact wpAny_Name (wpAny_loadName_local I.ok.kind hk hn hm fin) hd
 ·rcases hk with hk | hk
  ·exact wpAny_Name (wpAny_loadName_cell I.ok.kind hk hc hcell fin) hd
  ·exact wpAny_Name (wpAny_loadName_free I.ok.kind hk hc hcell fin hcd) hd
def zmd{i j pos}:PE X (.Constant (.int i) j pos) (tC (.int i)):=fun _ _ _ H _ I h=>wpAny_Constant_int ⟨.int i,H,I.tok _,⟨_,rfl⟩,h⟩
def znI{b j pos}:PE X (.Constant (.bool b) j pos) (tC (.bl b)):=fun _ _ _ H _ I h=>Constant_bool ⟨.bl b,H,I,rfl,h⟩
def zpW{j pos}:PE X (.Constant .none j pos) (tC .non):=fun _ _ _ H _ I h=>Constant_none ⟨.non,H,I,rfl,h⟩
def zmc{x j pos}:PE X (.Constant (.str x) j pos) (tC (.str x)):=fun _ _ _ H _ I h=>Calls.Constant_str ⟨.str x,H,I.tok _,⟨_,rfl⟩,h⟩
noncomputable def Gl(X:Cx)(x:Str):Prop:=X.env.kindOf x=some .globalImplicit
def zbQ{E:Z5}{pins:Z3}{s:Shared}{σ:St}{H:Hp}{x:Str}{u:Value}{pos:Pos}{Q:Z5}(I:Inv X pins σ H s)(hg:Gl X x)(hm:X.mg x=some u)(h:Q u s)
  (hd:(x == ("__debug__":Str))=false:=by decide):wpAny (model X.prog X.w) X.A (eval (.Name x pos) X.env) Q E s :=
 Calls.Name_function_global I.ok.kind hg (Calls.loadGlobal_global (by rw [I.ok.glob];exact I.mod.glob.keeps I.bk) hm h) hd
def zbp{E:Z5}{pins:Z3}{s:Shared}{σ:St}{H:Hp}{x:Str}{u:Value}{pos:Pos}{Q:Z5}(I:Inv X pins σ H s)(hg:Gl X x)(hm:X.mg x=none)(hv:bootBuiltins x=some u)(h:Q u s)
  (hn:x ≠ "__name__":=by decide) (hd:(x == ("__debug__":Str))=false:=by decide):wpAny (model X.prog X.w) X.A (eval (.Name x pos) X.env) Q E s:=by
 obtain ⟨mb,h1,h2⟩:=I.mod.blt;exact Calls.Name_function_global I.ok.kind hg (Calls.loadGlobal_builtin (by rw [I.ok.glob];exact I.mod.glob.keeps I.bk) hm (by rw [I.ok.blt];exact h1.keeps I.bk) ((h2 x hn).trans hv) h) hd
def zgb{x:Str}{v:V}{u:Value}{pos:Pos}(hg:Gl X x)(hm:X.mg x=some u)(r:zaI v u)(hd:(x == ("__debug__":Str))=false:=by decide):PE X (.Name x pos) (tC v) :=
 fun _ _ _ H _ I h=>zbQ I hg hm ⟨v,H,I,r,h⟩ hd
def zgc{x:Str}{v:V}{u:Value}{pos:Pos}(hg:Gl X x)(hm:X.mg x=none)(hv:bootBuiltins x=some u)(r:zaI v u)(hn:x ≠ "__name__":=by decide)(hd:(x == ("__debug__":Str))=false:=by decide):PE X (.Name x pos) (tC v) :=
 fun _ _ _ H _ I h=>zbp I hg hm hv ⟨v,H,I,r,h⟩ hn hd
variable{a b:Expr}{ta tb:TE}{pos:Pos}
noncomputable def tB(t:TE):TT:=fun σ H Q=>t σ H fun x H1=>∃c,x=.bl c/\Q c H1
def zpL{e:Expr}{t:TE}(h:PE X e t)(he:∀whole,isTrue e X.env whole=(do let v ← whole;standAt e.pos;holding [v] (truthy v)):=by intro _;rfl):PT X e (tB t):=by
 intro pins s σ H Q I hw;refine isTrue_plain (thn (h pins s σ H _ I hw) fun v s1 ⟨x,H1,I1,r1,q1⟩=>?_) (he _);obtain ⟨d,rfl,q⟩:=q1;cases r1;exact ybc ⟨H1,I1,q⟩
variable{tA tB':TT}{za9:List Expr}
noncomputable def zuz(t u:TT):TT:=fun σ H Q=>t σ H fun c H1=>if c=true then u σ H1 Q else Q false H1
noncomputable def tOr(t u:TT):TT:=fun σ H Q=>t σ H fun c H1=>if c=true then Q true H1 else u σ H1 Q
noncomputable def zux(t:TT):TT:=fun σ H Q=>t σ H fun c H1=>Q (!c) H1
def zny(ha:PT X a tA):PW X (.BoolOp .And [a] pos) tA:=by
 intro wh pins s σ H Q I h;refine isTrue_and (thn (ha pins s σ H Q I h) fun c s1 e=>?_)
 cases c with
 | true=>exact isTrue_and_nil e
 | false=>exact e
def zl9(ha:PT X a tA):PW X (.BoolOp .Or [a] pos) tA:=by
 intro wh pins s σ H Q I h;refine isTrue_or (thn (ha pins s σ H Q I h) fun c s1 e=>?_)
 cases c with
 | false=>exact isTrue_or_nil e
 | true=>exact e
def zpI(ha:PT X a tA)(hb:PW X (.BoolOp .And (b::za9) pos) tB'):PW X (.BoolOp .And (a::b::za9) pos) (zuz tA tB'):=by
 intro wh pins s σ H Q I h;refine isTrue_and (thn (ha pins s σ H _ I h) fun c s1 ⟨H1,I1,q1⟩=>?_)
 cases c with
 | true=>exact hb wh pins s1 σ H1 Q I1 q1
 | false=>exact ⟨H1,I1,q1⟩
def zsG(ha:PT X a tA)(hb:PW X (.BoolOp .Or (b::za9) pos) tB'):PW X (.BoolOp .Or (a::b::za9) pos) (tOr tA tB'):=by
 intro wh pins s σ H Q I h;refine isTrue_or (thn (ha pins s σ H _ I h) fun c s1 ⟨H1,I1,q1⟩=>?_)
 cases c with
 | true=>exact ⟨H1,I1,q1⟩
 | false=>exact hb wh pins s1 σ H1 Q I1 q1
def zpM(ha:PT X a tA):PT X (.UnaryOp .Not a pos) (zux tA):=by
 intro pins s σ H Q I h;exact isTrue_not (ha pins s σ H (fun c H1=>Q (!c) H1) I h)
noncomputable def zso(ta tb:TE):TE:=fun σ H Q=>ta σ H fun x H1=>∃c,x=.bl c/\if c=true then tb σ H1 Q else Q (.bl false) H1
noncomputable def zwl(ta tb:TE):TE:=fun σ H Q=>ta σ H fun x H1=>∃c,x=.bl c/\if c=true then Q (.bl true) H1 else tb σ H1 Q
noncomputable def zsh(ta:TE):TE:=fun σ H Q=>ta σ H fun x H1=>∃c,x=.bl c/\Q (.bl (!c)) H1
def zpU{op}(h:PE X a t):PE X (.BoolOp op [a] pos) t:=fun pins s σ H Q I hw=>BoolOp_one (h pins s σ H Q I hw)
def zp0(ha:PE X a ta)(hb:PE X (.BoolOp .And (b::za9) pos) tb):PE X (.BoolOp .And (a::b::za9) pos) (zso ta tb):=by
 intro pins s σ H Q I h;refine BoolOp_and (thn (ha pins s σ H _ I h) fun v s1 ⟨x,H1,I1,r1,q1⟩=>?_);obtain ⟨c,rfl,q1⟩:=q1;cases r1;refine ybc ?_
 cases c with
 | true=>exact hb pins s1 σ H1 Q I1 q1
 | false=>exact ⟨.bl false,H1,I1,rfl,q1⟩
def zsK(ha:PE X a ta)(hb:PE X (.BoolOp .Or (b::za9) pos) tb):PE X (.BoolOp .Or (a::b::za9) pos) (zwl ta tb):=by
 intro pins s σ H Q I h;refine BoolOp_or (thn (ha pins s σ H _ I h) fun v s1 ⟨x,H1,I1,r1,q1⟩=>?_);obtain ⟨c,rfl,q1⟩:=q1;cases r1;refine ybc ?_
 cases c with
 | false=>exact hb pins s1 σ H1 Q I1 q1
 | true=>exact ⟨.bl true,H1,I1,rfl,q1⟩
def zpV(ha:PE X a ta):PE X (.UnaryOp .Not a pos) (zsh ta):=by
 intro pins s σ H Q I h;refine UnaryOp_ (thn (ha pins s σ H _ I h) fun v s1 ⟨x,H1,I1,r1,q1⟩=>?_);obtain ⟨c,rfl,q1⟩:=q1;cases r1;exact not_of (ybc ⟨.bl (!c),H1,I1,rfl,q1⟩)
noncomputable def tIf(t:TT)(ta tb:TE):TE:=fun σ H Q=>t σ H fun c H1=>if c=true then ta σ H1 Q else tb σ H1 Q
def zkP(hc:PT X c tA)(ha:PE X a ta)(hb:PE X b tb):PE X (.IfExp c a b pos) (tIf tA ta tb):=by
 intro pins s σ H Q I h;refine wpAny_IfExp (thn (hc pins s σ H _ I h) fun d s1 ⟨H1,I1,q1⟩=>?_)
 cases d with
 | true=>exact ha pins s1 σ H1 Q I1 q1
 | false=>exact hb pins s1 σ H1 Q I1 q1
end
noncomputable def SqL(K:PySem.W.Frag)(H:Hp)(a:Addr)(xs:List V):Prop :=
 Rd H a (.lst xs) ∨
  ∃(o:Obj) (its:Array Value) (n:Nat),K.lookup a=some o/\o.cls=.type "list" /\ o.dict=none/\o.data=.seq its n/\its.size<=sizeLine/\Vals xs its.toList
noncomputable def SqT(K:PySem.W.Frag)(H:Hp)(a:Addr)(xs:List V):Prop :=
 Rd H a (.tup xs) ∨
  ∃(o:Obj) (its:Array Value) (n:Nat),K.lookup a=some o/\o.cls=.type "tuple" /\ o.data=.seq its n/\its.size<=sizeLine/\Vals xs its.toList
noncomputable def zxm:Value->Option V
 | .none=>some .non
 | .bool b=>some (.bl b)
 | .int i _=>some (.int i)
 | .str x _=>some (.str x)
 | .bytes b _=>some (.byt b)
 | .float b _=>some (.flt b)
 | .ref a=>some (.ref a)
 | .type n=>some (.ty n)
 | _=>none
def zaI.abs(r:zaI x u):zxm u=some x:=by
 cases x with
 | non=>cases r;rfl
 | bl _=>cases r;rfl
 | int _=>obtain ⟨t,rfl⟩:=r;rfl
 | str _=>obtain ⟨t,rfl⟩:=r;rfl
 | byt _=>obtain ⟨t,rfl⟩:=r;rfl
 | flt _=>obtain ⟨t,rfl⟩:=r;rfl
 | ref _=>cases r;rfl
 | ty _=>cases r;rfl
theorem zaI.inj(r:zaI x u)(q:zaI y u):x=y:=Option.some.inj (r.abs.symm.trans q.abs)
theorem Vals.inj:∀{xs ys:List V} {us:List Value},Vals xs us->Vals ys us->xs=ys
 | _,_,_,.nil,.nil=>rfl
 | _,_,_,.cons r t,.cons r' t'=>by rw [r.inj r',Vals.inj t t']
section
variable{X:Cx}{pins:Z3}{σ:St}{H:Hp}{s:Shared}{a:Addr}{xs ys:List V}
def SqL.of{K:PySem.W.Frag}(h:H a=some (.lst xs)):SqL K H a xs:=.inl (.inl h)
def SqT.of{K:PySem.W.Frag}(h:H a=some (.tup xs)):SqT K H a xs:=.inl (.inl h)
theorem Inv.list(I:Inv X pins σ H s)(h:SqL X.K H a xs):∃its:List Value,Vals xs its/\PlainL s.heap a its.toArray/\xs.length<=sizeLine:=by
 rcases h with h | ⟨o,its,n,hk,hc,hd,hs,hz,r⟩
 ·obtain ⟨z,its,n,r,e⟩:=h.ok I.hok;exact ⟨its,r,⟨_,n,e,rfl,rfl,rfl⟩,z⟩
 ·refine ⟨its.toList,r,⟨o,n,I.kIn a o hk,hc,hd,by simpa using hs⟩,?_⟩;have e:=r.length;simp only [yaz] at e;omega
def Inv.tuple(I:Inv X pins σ H s)(h:SqT X.K H a xs):∃its:List Value,Vals xs its/\IsTup s.heap a its.toArray/\xs.length<=sizeLine:=by
 rcases h with h | ⟨o,its,n,hk,hc,hs,hz,r⟩
 ·obtain ⟨z,its,r,p⟩:=h.ok I.hok;exact ⟨its,r,p.t,z⟩
 ·refine ⟨its.toList,r,⟨o,I.kIn a o hk,hc,n,by simpa using hs⟩,?_⟩;have e:=r.length;simp only [yaz] at e;omega
def Inv.list_inj(I:Inv X pins σ H s)(h:SqL X.K H a xs)(h':SqL X.K H a ys):xs=ys:=by
 obtain ⟨its,r,⟨o,n,e,_,_,d⟩,_⟩:=I.list h;obtain ⟨its',r',⟨o',n',e',_,_,d'⟩,_⟩:=I.list h';rw [e] at e';cases e';rw [d] at d'
 injection d' with d1 _
 have:its=its':=by simpa using congrArg Array.toList d1
 subst this;exact r.inj r'
def Inv.tuple_inj(I:Inv X pins σ H s)(h:SqT X.K H a xs)(h':SqT X.K H a ys):xs=ys:=by
 obtain ⟨its,r,⟨o,e,_,n,d⟩,_⟩:=I.tuple h;obtain ⟨its',r',⟨o',e',_,n',d'⟩,_⟩:=I.tuple h';rw [e] at e';cases e';rw [d] at d'
 injection d' with d1 _
 have:its=its':=by simpa using congrArg Array.toList d1
 subst this;exact r.inj r'
end
section
variable{X:Cx}{st:Stmt}{za9:List Stmt}{t u:TS}{e:Expr}{te:TE}{pos:Pos}
noncomputable def zo2:TS:=fun D σ H=>D.nx σ H
noncomputable def zwj(t u:TS):TS:=fun D σ H=>t { D with nx:=u D } σ H
def znz:PSs X [] zo2:=fun _ _ σ H _ I h=>ycm ⟨σ,H,I,h⟩
def zkE(h1:PS X st t)(h2:PSs X za9 u):PSs X (st::za9) (zwj t u):=by
 intro pins s σ H D I h;refine wpAny_execs_cons (thn (h1 pins s σ H { D with nx:=u D } I h) fun f s1 q=>?_)
 cases f with
 | next =>
  obtain ⟨σ',H',I',q⟩:=q;exact h2 pins s1 σ' H' D I' q
 | ret v=>exact q
 | brk=>exact q
 | cont=>exact q
def zes(h1:PS X st t):PSs X [st] t:=by
 intro pins s σ H D I h;refine wpAny_execs_cons (thn (h1 pins s σ H D I h) fun f s1 q=>?_)
 cases f with
 | next=>exact ycm q
 | ret v=>exact q
 | brk=>exact q
 | cont=>exact q
noncomputable def zo6:TS:=fun D σ H=>D.bk σ H
def znB:PS X (.Pass pos) zo2:=fun _ _ σ H _ I h=>wpAny_Pass ⟨σ,H,I,h⟩
def zkH:PS X (.Break pos) zo6:=fun _ _ σ H _ I h=>wpAny_Break ⟨σ,H,I,h⟩
def Inv.quiet(I:Inv X pins σ H s):interactive X.env=false:=by simp [interactive,I.ok.kind]
noncomputable def zsl(te:TE):TS:=fun D σ H=>te σ H fun _ H1=>D.nx σ H1
def zdk(he:PE X e te)(hs:swapsWith e none pos.line X.env=pure false:=by rfl):PS X (.Expr e pos) (zsl te):=by
 intro pins s σ H D I h;exact wpAny_Expr_any (thn (he pins s σ H _ I h) fun v s1 ⟨x,H1,I1,r1,q1⟩=>⟨σ,H1,I1,q1⟩) I.quiet hs
noncomputable def zo0(te:TE):TS:=fun D σ H=>te σ H D.rt
def ze8(he:PE X e te):PS X (.Return (some e) pos) (zo0 te):=by
 intro pins s σ H D I h;exact wpAny_Return_some (thn (he pins s σ H _ I h) fun v s1 ⟨x,H1,I1,r1,q1⟩=>⟨x,σ,H1,I1,r1,q1⟩)
noncomputable def zsg:TS:=fun D _ H=>D.rt .non H
def znA:PS X (.Return none pos) zsg:=fun _ _ σ H _ I h=>wpAny_Return_none ⟨.non,σ,H,I,rfl,h⟩
noncomputable def zwo(c:TT)(t u:TS):TS:=fun D σ H=>c σ H fun b H1=>if b=true then t D σ H1 else u D σ H1
def zsH(hc:PT X c tc)(ha:PSs X a t)(hb:PSs X b u):PS X (.If c a b pos) (zwo tc t u):=by
 intro pins s σ H D I h;refine wpAny_If (thn (hc pins s σ H _ I h) fun d s1 ⟨H1,I1,q1⟩=>?_)
 cases d with
 | true=>exact ha pins s1 σ H1 D I1 q1
 | false=>exact hb pins s1 σ H1 D I1 q1
end
noncomputable abbrev TG:=V->St->Hp->(St->Hp->Prop)->Prop
noncomputable abbrev TGs:=List V->St->Hp->(St->Hp->Prop)->Prop
noncomputable def PG(X:Cx)(target:Expr)(t:TG):Prop :=
 ∀(pins:Z3) (s:Shared) (σ:St) (H:Hp) (v:V) (u:Value) (Q:St->Hp->Prop),Inv X pins σ H s->zaI v u->t v σ H Q →
  wpAny (model X.prog X.w) X.A (assign target X.env u) (fun _ s'=>∃σ' H',Inv X pins σ' H' s'/\Q σ' H') X.xe s
noncomputable def PGs(X:Cx)(ts:List Expr)(t:TGs):Prop :=
 ∀(pins:Z3) (s:Shared) (σ:St) (H:Hp) (vs:List V) (us:List Value) (Q:St->Hp->Prop),Inv X pins σ H s->Vals vs us->t vs σ H Q →
  wpAny (model X.prog X.w) X.A (assignInOrder ((assignEach ts X.env).map (·.2)) us) (fun _ s'=>∃σ' H',Inv X pins σ' H' s'/\Q σ' H') X.xe s
noncomputable abbrev TSet:=V->V->V->Hp->(Hp->Prop)->Prop
noncomputable def zr3(X:Cx)(t:TSet):Prop :=
 ∀(pins:Z3) (s:Shared) (σ:St) (H:Hp) (o i v:V) (ov iv u:Value) (Q:Hp->Prop),Inv X pins σ H s->zaI o ov->zaI i iv->zaI v u->t o i v H Q →
  wpAny (model X.prog X.w) X.A (setItem ov iv u) (fun _ s'=>∃H',Inv X pins σ H' s'/\Q H') X.xe s
noncomputable abbrev TIp:=V->V->Hp->VK->Prop
noncomputable def PIp(X:Cx)(op:Operator)(t:TIp):Prop :=
 ∀(pins:Z3) (s:Shared) (σ:St) (H:Hp) (x y:V) (v u:Value) (Q:VK),Inv X pins σ H s->zaI x v->zaI y u->t x y H Q →
  wpAny (model X.prog X.w) X.A (inplaceOp op v u) (EP X pins σ Q) X.xe s
section
variable{X:Cx}{pos:Pos}
noncomputable def zhS(i:Nat):TG:=fun v σ H Q=>Q (σ.set i (some v)) H
def zch{i:Nat}{x:Str}(hN:X.N.Nodup)(hi:X.N[i]?=some x)(hx:Loc X.env.scope x)(hf:X.fn x=true\/X.env.scope.names.lookup x=some .local:=by first | exact .inl rfl | exact .inr rfl | assumption):PG X (.Name x pos) (zhS i):=by
 intro pins s σ H v u Q I r h;exact wpAny_assign_Name (zbt I hN hi hx r (fun s' I'=>⟨_,H,I',h⟩) hf)
noncomputable def zxf:TGs:=fun vs σ H Q=>vs=[]/\Q σ H
noncomputable def ztk(t:TG)(u:TGs):TGs:=fun vs σ H Q=>∃v r,vs=v::r/\t v σ H fun σ' H'=>u r σ' H' Q
def zga:PGs X [] zxf:=by
 intro pins s σ H vs us Q I r h;obtain ⟨e,h⟩:=h;subst e;cases r;exact assignInOrder_nil ⟨σ,H,I,h⟩
def zbY{e:Expr}{es:List Expr}{t:TG}{u:TGs}(h1:PG X e t)(h2:PGs X es u)
  (hs:(assignEach (e::es) X.env).map (·.2)=assign e X.env::(assignEach es X.env).map (·.2):=by rfl):PGs X (e::es) (ztk t u):=by
 intro pins s σ H vs us Q I r h;obtain ⟨v,vr,e1,h⟩:=h;subst e1
 cases r with
 | cons r rr =>
  rw [hs];refine yc5 (thn (h1 pins s σ H _ _ _ I r h) fun _ s1 ⟨σ1,H1,I1,q1⟩=>?_);exact h2 pins s1 σ1 H1 _ _ Q I1 rr q1
noncomputable def zxd(K:PySem.W.Frag)(n:Nat)(t:TGs):TG:=fun v σ H Q=>∃a xs,v=.ref a/\SqT K H a xs/\xs.length=n/\t xs σ H Q
def ziV{es:List Expr}{k:Nat}{t:TGs}{n:Nat}(hc:X.calm=true)(h:PGs X es t)
  (hn:(assignEach es X.env).length=n:=by rfl) (hst:(assignEach es X.env).findIdx? (·.1)=none:=by rfl):PG X (.Tuple es k pos) (zxd X.K n t):=by
 intro pins s σ H v u Q I r hw;obtain ⟨a,xs,e1,hq,hl,hw⟩:=hw;subst e1;cases r;obtain ⟨its,rv,ht,hz⟩:=I.tuple hq;refine assign_Tuple_tuple (I.ok.hd hc) ht (by simp [hn,<-hl,rv.length]) hst fun h' hx=>?_
 have I1:Inv X pins σ H { s with heap:=h' }:=I.kept (t':=s.toks) fun b o e=>hx b o (yap (yaj e)) e
 exact h pins _ σ H xs _ Q I1 (by simpa using rv) hw
noncomputable def zxe(to ti:TE)(t:TSet):TG:=fun v σ H Q=>to σ H fun o H1=>ti σ H1 fun i H2=>t o i v H2 fun H3=>Q σ H3
def ziW{o i:Expr}{to ti:TE}{t:TSet}(ho:PE X o to)(hi:PE X i ti)(hs:zr3 X t)
  (ha:∀v,assign (.Subscript o i pos) X.env v=(do
   let ov ← holding [v] (eval o X.env)
   let iv ← holding [v,ov] (eval i X.env)
   standAt pos
   holding [v,ov,iv] (setItem ov iv v)
   release [v,ov,iv] []):=by intro _;rfl):PG X (.Subscript o i pos) (zxe to ti t):=by
 intro pins s σ H v u Q I r h;rw [ha];refine yaa (ybp (thn (ho pins s σ H _ I h) fun ov s1 ⟨x,H1,I1,r1,q1⟩=>?_));refine yaa (ybp (thn (hi pins s1 σ H1 _ I1 q1) fun iv s2 ⟨y,H2,I2,r2,q2⟩=>?_));refine yaa (ydk (yaa (ybp (thn (hs pins s2 σ H2 x y v ov iv u _ I2 r1 r2 r q2) fun _ s3 ⟨H3,I3,q3⟩=>?_))));exact wpAny_release ⟨σ,H3,I3,q3⟩
noncomputable def zmV(te:TE)(g:TG):TS:=fun D σ H=>te σ H fun x H1=>g x σ H1 D.nx
def zd0{tg e:Expr}{te:TE}{g:TG}(he:PE X e te)(hg:PG X tg g)(hs:swapsWithSole [tg] e pos.line X.env=pure false:=by rfl)(hw:swappedStores [tg] e X.env=pure none:=by rfl)
  (h1:(assignEach [tg] X.env).map (·.2)=[assign tg X.env]:=by rfl):PS X (.Assign [tg] e pos) (zmV te g):=by
 intro pins s σ H D I h;refine wpAny_Assign_stores (thn (he pins s σ H _ I h) fun v s1 ⟨x,H1,I1,r1,q1⟩=>?_) hs hw;rw [h1];exact thn (hg pins s1 σ H1 x v _ I1 r1 q1) fun _ s2 q=>q
def ziM{i:Nat}{x:Str}{e:Expr}{te:TE}{pos':Pos}(hN:X.N.Nodup)(hi:X.N[i]?=some x)(hx:Loc X.env.scope x)(he:PE X e te)(hs:swapsWith e (some (.Name x pos')) pos.line X.env=pure false:=by rfl)(hf:X.fn x=true\/X.env.scope.names.lookup x=some .local:=by first | exact .inl rfl | exact .inr rfl | assumption) :
  PS X (.Assign [.Name x pos'] e pos) (zmV te (zhS i)):=by
 intro pins s σ H D I h;refine wpAny_Assign_Name (thn (he pins s σ H _ I h) fun v s1 ⟨y,H1,I1,r1,q1⟩=>?_) hs;exact zbt I1 hN hi hx r1 (fun s2 I2=>⟨_,H1,I2,q1⟩) hf
noncomputable def zuw(i j:Nat)(ta:TA):TS:=fun D σ H=>ta σ H fun vs H1=>∃v w,vs=[v,w]/\D.nx ((σ.set i (some v)).set j (some w)) H1
def zpN{i j:Nat}{x y:Str}{a b:Expr}{ta:TA}{px py pt:Pos}{kt k2 pt2}(hc:X.calm=true)(hN:X.N.Nodup)(hi:X.N[i]?=some x)(hj:X.N[j]?=some y)(hij:i≠j)
  (hx:X.env.scope.names.lookup x=some .local) (hy:X.env.scope.names.lookup y=some .local) (ha:PA X [a,b] ta)
  (hw:swappedStores [.Tuple [.Name x px,.Name y py] kt pt] (.Tuple [a,b] k2 pt2) X.env=pure (some [x,y]))
  (hs:swapsWithSole [.Tuple [.Name x px,.Name y py] kt pt] (.Tuple [a,b] k2 pt2) pos.line X.env=pure false:=by rfl) :
  PS X (.Assign [.Tuple [.Name x px,.Name y py] kt pt] (.Tuple [a,b] k2 pt2) pos) (zuw i j ta):=by
 intro pins s σ H D I h;rw [exec_Assign_arm];refine yaa (ydk ?_);rw [hs];refine yaa (yae ?_);rw [if_neg (by decide)];refine yaa (Tuple_ (thn (ha _ pins s σ H _ I h) fun us s1 ⟨vs,H1,I1,r1,q1⟩=>?_));obtain ⟨v,w,e1,q1⟩:=q1;subst e1
 obtain ⟨u1,u2,rfl,rv,rw'⟩:∃u1 u2,us=[u1,u2]/\zaI v u1/\zaI w u2:=by
  cases r1 with
  | cons p q =>
   cases q with
   | cons p' q' =>
    cases q';exact ⟨_,_,rfl,p,p'⟩
 refine yaK ?_ (by show 2<=sizeLine;decide);have I2:Inv X pins σ H1 { s1 with heap:=s1.heap.push { cls:=.type "tuple",data:=.seq [u1,u2].toArray } }:=I1.kept (t':=s1.toks) fun b o e=>yad _ e
 rw [hw];refine yaa (yae ?_);show wpAny (model X.prog X.w) X.A (do rule "assign.swapped-stores";let items ← unpackItems (.ref s1.heap.objs.size) 2 none;assignInOrder [fun v=>bindName X.env y v,fun v=>bindName X.env x v] items.reverse;pure Flow.next) _ _ _;refine yaa (yb6 (yaa (unpackItems_tuple (items:=#[u1,u2]) (I.ok.hd hc) (IsTup.new s1.heap _) fun h' hx'=>?_)));have I3:=I2.kept (h':=h') (t':=s1.toks) fun b o e=>hx' b o (yap (yaj e)) e
 show wpAny _ _ (assignInOrder [fun v=>bindName X.env y v,fun v=>bindName X.env x v] [u2,u1] >>= fun _=>pure Flow.next) _ _ _;refine yaa (yc5 (wpAny_bindName (zbt I3 hN hj (.inl hy) rw' (fun s2 I4=>?_) (.inr hy))));refine yc5 (wpAny_bindName (zbt I4 hN hi (.inl hx) rv (fun s3 I5=>assignInOrder_nil (yae ?_)) (.inr hx)));rw [List.set_comm _ _ (Ne.symm hij)] at I5;exact ⟨_,H1,I5,q1⟩
noncomputable def zwr(i:Nat)(te:TE)(ti:TIp):TS:=fun D σ H=>∃x,σ[i]?=some (some x)/\te σ H fun y H1=>ti x y H1 fun z H2=>D.nx (σ.set i (some z)) H2
def zpP{i:Nat}{x:Str}{e:Expr}{te:TE}{op:Operator}{ti:TIp}{pos':Pos}(hN:X.N.Nodup)(hi:X.N[i]?=some x)(hx:Loc X.env.scope x)(he:PE X e te)(ho:PIp X op ti)(hf:X.fn x=true\/X.env.scope.names.lookup x=some .local:=by first | exact .inl rfl | exact .inr rfl | assumption) :
  PS X (.AugAssign (.Name x pos') op e pos) (zwr i te ti):=by
 intro pins s σ H D I h;obtain ⟨v,e1,h⟩:=h;obtain ⟨m,hn,hl⟩:=I.loc
 have vis:Vis X.env.scope x:=by rcases hx with k | k;exact .inl k;exact .inr (.inl k)
 obtain ⟨u,r,l⟩:=hl i x v hi e1 vis;refine wpAny_AugAssign_Name ?_
 have go:wpAny (model X.prog X.w) X.A (eval e X.env) (fun w s₂=>wpAny (model X.prog X.w) X.A (inplaceOp op u w) (fun r s₃=>wpAny (model X.prog X.w) X.A (storeName X.env x r) (fun _=>SP X pins D .next) X.xe s₃) X.xe s₂) X.xe s:=by
  refine thn (he pins s σ H _ I h) fun w s1 ⟨y,H1,I1,r1,q1⟩=>?_
  refine thn (ho pins s1 σ H1 v y u w _ I1 r r1 q1) fun z s2 ⟨zv,H2,I2,r2,q2⟩=>?_
  exact zbt I2 hN hi hx r2 (fun s3 I3=>⟨_,H2,I3,q2⟩) hf
 rcases l with ⟨hk,hm⟩ | ⟨hk,c,hc,hcell⟩
 ·exact wpAny_loadName_local I.ok.kind hk hn hm go
 ·rcases hk with hk | hk
  ·exact wpAny_loadName_cell I.ok.kind hk hc hcell go
  ·rcases hx with k | k
   ·have:X.env.scope.names.lookup x=some .free:=hk;rw [k] at this;cases this
   ·have:X.env.scope.names.lookup x=some .free:=hk;rw [k] at this;cases this
end
section
variable{X:Cx}{pos:Pos}
noncomputable def zoY(c:TT)(tb:TS):TS:=fun D σ H=>∃W:Nat->St->Hp->Prop,(∃m,W m σ H)/\∀m σ H,W m σ H →
 c σ H fun b H1=>if b=true then ∃N:St->Hp->Prop,(∀σ' H',N σ' H'->∃m',m'<m/\W m' σ' H')/\tb { D with nx:=N,ct:=N,bk:=D.nx } σ H1 else D.nx σ H1
def zkF(hp:PassesOwn (model X.prog X.w) X.A X.env X.xe)(hc:PT X c tc)(hb:PSs X body tb):PS X (.While c body [] pos) (zoY tc tb):=by
 intro pins s σ H D I h;obtain ⟨W,⟨m0,w0⟩,turn⟩:=h;refine wpAny_While (codeAny_whileLoop (fun n s'=>∃σ' H',Inv X pins σ' H' s'/\W n σ' H') ?_ m0 ⟨σ,H,I,w0⟩);rintro n s1 ⟨σ1,H1,I1,w1⟩;refine ybP hp (thn (hc pins s1 σ1 H1 _ I1 (turn n σ1 H1 w1)) fun b s2 ⟨H2,I2,q2⟩=>?_)
 cases b with
 | true =>
  obtain ⟨N,hN,q2⟩:=q2;rw [if_pos rfl];refine ybP hp (thn (hb pins s2 σ1 H2 _ I2 q2) fun f s3 q3=>?_)
  cases f with
  | next =>
   obtain ⟨σ3,H3,I3,n3⟩:=q3;obtain ⟨m',hm,w3⟩:=hN σ3 H3 n3;exact ⟨m',hm,σ3,H3,I3,w3⟩
  | cont =>
   obtain ⟨σ3,H3,I3,n3⟩:=q3;obtain ⟨m',hm,w3⟩:=hN σ3 H3 n3;exact ⟨m',hm,σ3,H3,I3,w3⟩
  | brk=>exact q3
  | ret v=>exact q3
 | false =>
  rw [if_neg yaG];exact ycm ⟨σ1,H2,I2,q2⟩
end
structure It where
 go:Nat->Hp->Prop
 yld:Nat->Hp->V->Hp->Prop
 stop:Nat->Hp->Prop
noncomputable def zkd(X:Cx)(pins:Z3)(H:Hp)(b:Addr):Prop :=
 H b=none/\b≠X.env.locals/\b ∉ X.fs/\(b∈X.ex\/X.s₀.heap.objs.size<=b)/\(∀x c,X.env.cells.lookup x=some c->c≠b)/\∀p∈X.pn++pins,p.1≠b
def Inv.fpOk(I:Inv X pins σ H s)(hb:s.heap.objs.size<=b)(hn:H' b=none):zkd X pins H' b:=by
 refine ⟨hn,yaT (yak I.lt hb),I.nofs hb,.inr (yas I.sz hb),fun x c e z=>?_,fun p hp z=>?_⟩
 ·obtain ⟨v,q⟩:=I.cell x c e;exact absurd (yak q.lt (by rw [z];exact hb)) (yaL _)
 ·exact absurd (yak (yaj (I.pin p hp).1) (by rw [z];exact hb)) (yaL _)
structure Turn(P:Program)(w:World)(K:PySem.W.Frag)(tg:Expr)(J:It)(fp:List Addr)(it:Addr)(tn:Nat->Heap->Prop):Prop where
 mem:it∈fp
 obj:∀i h,tn i h->∀b∈fp,∃o,h.get? b=some o/\∀v,o.data≠.cell v
 keep:∀i h h',tn i h->(∀b∈fp,∀o,h.get? b=some o->h'.get? b=some o)->tn i h'
 item:∀(X:Cx),X.prog=P->X.w=w->X.K=K->X.calm=true->∀(i:Nat) (pins:Z3) (s:Shared) (σ:St) (H:Hp) (E:Z5),Inv X pins σ H s->(∀b∈fp,zkd X pins H b)->tn i s.heap->J.go i H →
  wpAny (model P w) X.A (pyNext (.ref it)) (fun r s1=>∃u,r=some u ∧
   wpAny (model P w) X.A (letOwnedTupleGo tg (.ref it) u) (fun _ s2=>∃x H',Inv X pins σ H' s2/\zaI x u/\J.yld i H x H'/\tn (i+1) s2.heap/\∀b∈fp,H' b=none) E s1) E s
 done:∀(X:Cx),X.prog=P->X.w=w->X.K=K->X.calm=true->∀(i:Nat) (pins:Z3) (s:Shared) (σ:St) (H:Hp) (E:Z5),Inv X pins σ H s->(∀b∈fp,zkd X pins H b)->tn i s.heap->J.stop i H →
  wpAny (model P w) X.A (pyNext (.ref it)) (fun r s1=>r=none/\Inv X pins σ H s1) E s
 self:∀(A:Around) (i:Nat) (s:Shared) (Q:Z5) (E:Z5),tn i s.heap->Q (.ref it) s->wpAny (model P w) A (pyIter (.ref it)) Q E s
noncomputable abbrev TI:=St->Hp->(It->Hp->Prop)->Prop
noncomputable def PIE(X:Cx)(pins:Z3)(σ:St)(tg:Expr)(R:It->Hp->Prop)(itv:Value)(s2:Shared):Prop :=
 ∃(it:Addr) (fp:List Addr) (tn:Nat->Heap->Prop) (J:It) (H':Hp),itv=.ref it/\Inv X pins σ H' s2/\Turn X.prog X.w X.K tg J fp it tn/\tn 0 s2.heap/\(∀b∈fp,zkd X pins H' b)/\R J H'
noncomputable def PI(X:Cx)(tg iter:Expr)(wi:TI):Prop :=
 ∀(pins:Z3) (s:Shared) (σ:St) (H:Hp) (R:It->Hp->Prop),Inv X pins σ H s->wi σ H R →
  wpAny (model X.prog X.w) X.A (eval iter X.env) (fun v s1=>wpAny (model X.prog X.w) X.A (pyIter v) (PIE X pins σ tg R) X.xe s1) X.xe s
def zjB (ho : s.heap.get? it = some o) (hc : o.cls = .type n) (hd : o.data = .fields vs)
    (hn : ["enumerate", "zip", "dict_itemiterator", "dict_reverseitemiterator", "odict_iterator", "itertools.zip_longest", "itertools.pairwise"].contains n = false) (hQ : Q () s) : wpAny M A (letOwnedTupleGo tg (.ref it) u) Q E s := by
  unfold letOwnedTupleGo
  cases tg <;> first
    | exact yae hQ
    | (cases u <;> first
        | exact yae hQ
        | (refine yaa (wpAny_load ho ?_)
           rw [hc, hd];show wpAny M A (if (["enumerate", "zip", "dict_itemiterator", "dict_reverseitemiterator", "odict_iterator", "itertools.zip_longest", "itertools.pairwise"].contains n && vs[0]? == some (rawInt _)) = true then _ else _) Q E s;rw [if_neg (by intro h; rw [hn, Bool.false_and] at h; cases h)]
           exact yae hQ))
noncomputable def Itl(K:PySem.W.Frag)(a:Addr):It :=
 ⟨fun i H=>∃xs x,SqL K H a xs/\xs[i]?=some x,fun i H x H'=>H'=H/\∀xs,SqL K H a xs->xs[i]?=some x,fun i H=>∃xs,SqL K H a xs/\xs.length<=i⟩
noncomputable def Itt(K:PySem.W.Frag)(a:Addr):It :=
 ⟨fun i H=>∃xs x,SqT K H a xs/\xs[i]?=some x,fun i H x H'=>H'=H/\∀xs,SqT K H a xs->xs[i]?=some x,fun i H=>∃xs,SqT K H a xs/\xs.length<=i⟩
noncomputable def Itr(lo:Int)(n:Nat):It:=⟨fun i _=>i<n,fun i H x H'=>H'=H/\x=.int (lo+i),fun i _=>n<=i⟩
theorem zif{P:Program}{K:PySem.W.Frag}(a it:Addr):Turn P w K tg (Itl K a) [it] it (fun i h=>h.IsListIter it a i) where
 mem:=by simp
 obj:=fun i h st b hb=>by
  have e:b=it:=by simpa using hb
  subst e;obtain ⟨o,e,c,d⟩:=st;exact ⟨o,e,fun v z=>by rw [d] at z;cases z⟩
 keep:=fun i h h' st k=>st.at fun o e=>k it (by simp) o e
 item:=by
  intro X hP hw hK hc i pins s σ H E I hf st hg;subst hP hw hK;obtain ⟨xs,x,hq,hx⟩:=hg;obtain ⟨its,rv,p,hz⟩:=I.list hq;obtain ⟨u,hu,ru⟩:=rv.get hx;obtain ⟨f0,f1,f2,f3,f4,f5⟩:=hf it (by simp);refine wpAny_pyNext_list_item st p.isList (x:=u) (by simpa using hu) fun h' st' sb=>?_
  have I1:Inv X pins σ H { s with heap:=h' }:=I.turned (t':=s.toks) (fun b o hb e=>(sb.2 b hb).trans e) f0 f1 f3 f4 f5;obtain ⟨o,e,c,d⟩:=id st';exact ⟨u,rfl,zjB (s:={ s with heap:=h' }) e c d (by decide) ⟨x,H,I1,ru,⟨rfl,fun ys hy=>by rw [I.list_inj hy hq];exact hx⟩,st',fun b hb=>(hf b hb).1⟩⟩
 done:=by
  intro X hP hw hK hc i pins s σ H E I hf st hg;subst hP hw hK;obtain ⟨xs,hq,hx⟩:=hg;obtain ⟨its,rv,p,hz⟩:=I.list hq;obtain ⟨f0,f1,f2,f3,f4,f5⟩:=hf it (by simp);have hl:=rv.length;exact wpAny_pyNext_list_end (I.ok.hd hc) st p.isList (by simp;omega) fun h' eb=>⟨rfl,I.turned (t':=s.toks) (fun b o hb e=>eb b o hb e) f0 f1 f3 f4 f5⟩
 self:=fun _ _ _ _ _ st h=>wpAny_pyIter_listiter st h
def zhv{P:Program}{K:PySem.W.Frag}(a it:Addr):Turn P w K tg (Itt K a) [it] it (fun i h=>h.IsTupleIter it a i) where
 mem:=by simp
 obj:=fun i h st b hb=>by
  have e:b=it:=by simpa using hb
  subst e;obtain ⟨o,e,c,d⟩:=st;exact ⟨o,e,fun v z=>by rw [d] at z;cases z⟩
 keep:=fun i h h' st k=>st.at fun o e=>k it (by simp) o e
 item:=by
  intro X hP hw hK hc i pins s σ H E I hf st hg;subst hP hw hK;obtain ⟨xs,x,hq,hx⟩:=hg;obtain ⟨its,rv,p,hz⟩:=I.tuple hq;obtain ⟨u,hu,ru⟩:=rv.get hx;obtain ⟨f0,f1,f2,f3,f4,f5⟩:=hf it (by simp);refine wpAny_pyNext_tuple_item st (show s.heap.IsTuple a its.toArray from p) (x:=u) (by simpa using hu) fun h' st' sb=>?_
  have I1:Inv X pins σ H { s with heap:=h' }:=I.turned (t':=s.toks) (fun b o hb e=>(sb.2 b hb).trans e) f0 f1 f3 f4 f5;obtain ⟨o,e,c,d⟩:=id st';exact ⟨u,rfl,zjB (s:={ s with heap:=h' }) e c d (by decide) ⟨x,H,I1,ru,⟨rfl,fun ys hy=>by rw [I.tuple_inj hy hq];exact hx⟩,st',fun b hb=>(hf b hb).1⟩⟩
 done:=by
  intro X hP hw hK hc i pins s σ H E I hf st hg;subst hP hw hK;obtain ⟨xs,hq,hx⟩:=hg;obtain ⟨its,rv,p,hz⟩:=I.tuple hq;obtain ⟨f0,f1,f2,f3,f4,f5⟩:=hf it (by simp);have hl:=rv.length;exact wpAny_pyNext_tuple_end (I.ok.hd hc) st (show s.heap.IsTuple a its.toArray from p) (by simp;omega) fun h' eb=>⟨rfl,I.turned (t':=s.toks) (fun b o hb e=>eb b o hb e) f0 f1 f3 f4 f5⟩
 self:=fun _ _ _ _ _ st h=>wpAny_pyIter_tupleiter st h
theorem zhw{P:Program}{K:PySem.W.Frag}(it:Addr)(lo:Int)(n:Nat):Turn P w K tg (Itr lo n) [it] it (fun i h=>IsRangeIter h it (lo+(i:Nat)*1) ((n:Int)-(i:Nat)) 1) where
 mem:=by simp
 obj:=fun i h st b hb=>by
  have e:b=it:=by simpa using hb
  subst e
  exact ⟨_,st,fun v z=>by
   have z':Data.fields _=Data.cell v:=z
   cases z'⟩
 keep:=fun i h h' st k=>k it (by simp) _ st
 item:=by
  intro X hP hw hK hc i pins s σ H E I hf st hg;subst hP hw hK;obtain ⟨f0,f1,f2,f3,f4,f5⟩:=hf it (by simp);have W:=Walks.range (prog:=X.prog) (w:=X.w) (I.ok.hd hc) it lo 1 n;refine W.item i s _ _ hg st fun v h' tk hv st' kk=>?_
  obtain ⟨t,rfl⟩:=hv;have I1:Inv X pins σ H { s with heap:=h',toks:=tk }:=I.turned (fun b o hb e=>kk b o (by simpa using hb) e) f0 f1 f3 f4 f5;refine ⟨_,rfl,zjB (s:={ s with heap:=h',toks:=tk }) (n:="range_iterator") st' rfl rfl (by decide) ⟨.int (lo+i),H,I1,⟨t,?_⟩,⟨rfl,rfl⟩,st',fun b hb=>(hf b hb).1⟩⟩;rw [Int.mul_one]
 done:=by
  intro X hP hw hK hc i pins s σ H E I hf st hg;subst hP hw hK;obtain ⟨f0,f1,f2,f3,f4,f5⟩:=hf it (by simp);exact wpAny_pyNext_range_end (I.ok.hd hc) st (by have:n<=i:=hg;omega) fun h' eb=>⟨rfl,I.turned (t':=s.toks) (fun b o hb e=>eb b o hb e) f0 f1 f3 f4 f5⟩
 self:=fun _ _ _ _ _ st h=>wpAny_pyIter_rangeiter st h
section
variable{X:Cx}{tg:Expr}
noncomputable def zti(K:PySem.W.Frag)(tl:TE):TI:=fun σ H R=>tl σ H fun x H1=>∃a,x=.ref a/\(∃xs,SqL K H1 a xs)/\R (Itl K a) H1
noncomputable def zxa(K:PySem.W.Frag)(tl:TE):TI:=fun σ H R=>tl σ H fun x H1=>∃a,x=.ref a/\(∃xs,SqT K H1 a xs)/\R (Itt K a) H1
def ziU(hl:PE X l tl):PI X tg l (zti X.K tl):=by
 intro pins s σ H R I h;refine thn (hl pins s σ H _ I h) fun v s1 ⟨x,H1,I1,r1,q1⟩=>?_
 obtain ⟨a,e,⟨xs,hq⟩,q⟩:=q1;subst e;cases r1;obtain ⟨its,rv,p,hz⟩:=I1.list hq;refine yb7 p.isList ?_;refine ⟨s1.heap.objs.size,[s1.heap.objs.size],_,_,H1,rfl,I1.kept (t':=s1.toks) fun b o e=>yad _ e,zif a _,⟨_,yag _ rfl,rfl,rfl⟩,fun b hb=>?_,q⟩
 have e:b=s1.heap.objs.size:=by simpa using hb
 subst e;exact I1.fpOk (yah _) (I1.hok.fresh (yah _))
def zpQ(hl:PE X l tl):PI X tg l (zxa X.K tl):=by
 intro pins s σ H R I h;refine thn (hl pins s σ H _ I h) fun v s1 ⟨x,H1,I1,r1,q1⟩=>?_
 obtain ⟨a,e,⟨xs,hq⟩,q⟩:=q1;subst e;cases r1;obtain ⟨its,rv,p,hz⟩:=I1.tuple hq;refine ybL (show s1.heap.IsTuple a its.toArray from p) ?_;refine ⟨s1.heap.objs.size,[s1.heap.objs.size],_,_,H1,rfl,I1.kept (t':=s1.toks) fun b o e=>yad _ e,zhv a _,⟨_,yag _ rfl,rfl,rfl⟩,fun b hb=>?_,q⟩
 have e:b=s1.heap.objs.size:=by simpa using hb
 subst e;exact I1.fpOk (yah _) (I1.hok.fresh (yah _))
theorem zgR{pins:Z3}{σ:St}{H:Hp}{s:Shared}{R:It->Hp->Prop}{E:Z5}{lo hi:Int}{t u v:Tok}{tk:Nat}(I:Inv X pins σ H s)(h1:-(2 ^ 62)<=lo)(h2:lo<2 ^ 62)(h3:-(2 ^ 62)<=hi)(h4:hi<2 ^ 62)
  (q:R (Itr lo (hi-lo).toNat) H):wpAny (model X.prog X.w) X.A (pyIter (.ref s.heap.objs.size)) (PIE X pins σ tg R) E { s with heap:=s.heap.push { cls:=.type "range",data:=.fields #[.int lo t,.int hi u,.int 1 v] },toks:=tk }:=by
 refine wpAny_pyIter_range (IsRange.new ..) (small_one h1 h2 h3 h4) ?_;have I1:Inv X pins σ H { s with heap:=s.heap.push { cls:=.type "range",data:=.fields #[.int lo t,.int hi u,.int 1 v] },toks:=tk }:=I.kept fun b o e=>yad _ e
 refine ⟨(s.heap.push { cls:=.type "range",data:=.fields #[.int lo t,.int hi u,.int 1 v] }).objs.size,[(s.heap.push { cls:=.type "range",data:=.fields #[.int lo t,.int hi u,.int 1 v] }).objs.size],_,_,H,rfl,
  I1.kept (t':=tk) fun b o e=>yad _ e,zhw _ lo (hi-lo).toNat,?_,fun b hb=>?_,q⟩
 ·have e1:lo+((0:Nat):Int)*1=lo:=by simp
  have e2:(((hi-lo).toNat:Nat):Int)-((0:Nat):Int)=Builtin.Range.rangeSize lo hi 1:=by rw [rangeSize_one];split<;>omega
  show IsRangeIter _ _ (lo+((0:Nat):Int)*1) ((((hi-lo).toNat:Nat):Int)-((0:Nat):Int)) 1;rw [e1,e2];exact yag _ rfl
 ·have e:b=(s.heap.push { cls:=.type "range",data:=.fields #[.int lo t,.int hi u,.int 1 v] }).objs.size:=by simpa using hb
  subst e;exact I1.fpOk (yah _) (I1.hok.fresh (yah _))
noncomputable def zth(ta:TA):TI:=fun σ H R=>ta σ H fun vs H1=>∃j:Int,vs=[.int j]/\-(2 ^ 62)<=j/\j<2 ^ 62/\R (Itr 0 j.toNat) H1
noncomputable def ztg(ta:TA):TI:=fun σ H R=>ta σ H fun vs H1=>∃i j:Int,vs=[.int i,.int j]/\(-(2 ^ 62)<=i/\i<2 ^ 62/\-(2 ^ 62)<=j/\j<2 ^ 62)/\R (Itr i (j-i).toNat) H1
theorem ziT{a:Expr}{ta:TA}{p pos:Pos}(hg:Gl X "range")(hm:X.mg "range" = none)(ha:PA X [a] ta)(hs:starEach [a] X.env=[(false,eval a X.env)]:=by rfl):PI X tg (.Call (.Name "range" p) [a] [] pos) (zth ta):=by
 intro pins s σ H R I h;refine Call_ (zbp I hg hm boot_range (yaC (thn (ha pos pins s σ H _ I h) fun us s1 ⟨vs,H1,I1,r1,q1⟩=>?_) hs rfl));obtain ⟨j,e,q1,q2,q⟩:=q1;subst e
 cases r1 with
 | cons r rr =>
  cases rr;obtain ⟨t,rfl⟩:=r;exact call_range_1 (zgR I1 (by omega) (by omega) q1 q2 (by simpa using q))
def ziS{a b:Expr}{ta:TA}{p pos:Pos}(hg:Gl X "range")(hm:X.mg "range" = none)(ha:PA X [a,b] ta)(hs:starEach [a,b] X.env=[(false,eval a X.env),(false,eval b X.env)]:=by rfl)(hs2:starEach [b] X.env=[(false,eval b X.env)]:=by rfl) :
  PI X tg (.Call (.Name "range" p) [a,b] [] pos) (ztg ta):=by
 intro pins s σ H R I h;refine Call_ (zbp I hg hm boot_range (yaC (thn (ha pos pins s σ H _ I h) fun us s1 ⟨vs,H1,I1,r1,q1⟩=>?_) (by rw [hs,hs2]) (by rw [hs2];rfl)));obtain ⟨i,j,e,⟨q1,q2,q3,q4⟩,q⟩:=q1;subst e
 cases r1 with
 | cons r rr =>
  cases rr with
  | cons r' rr =>
   cases rr;obtain ⟨t,rfl⟩:=r;obtain ⟨t',rfl⟩:=r';exact call_range_2 (zgR I1 q1 q2 q3 q4 q)
noncomputable def zwp(wi:TI)(g:TG)(tb:TS):TS:=fun D σ H=>wi σ H fun J H1=>∃W:Nat->Nat->St->Hp->Prop,(∃m,W 0 m σ H1)/\∀i m σ H,W i m σ H →
 (J.stop i H/\D.nx σ H)\/(J.go i H/\∃N:St->Hp->Prop,(∀σ' H',N σ' H'->∃m',m'<m/\W (i+1) m' σ' H')/\∀x H',J.yld i H x H'->g x σ H' fun σ2 H2=>tb { D with nx:=N,ct:=N,bk:=D.nx } σ2 H2)
noncomputable def zfb(fp:List Addr)(h:Heap):List (Addr×Obj):=fp.filterMap fun b=>(h.get? b).map fun o=>(b,o)
def zbZ(hb:b∈fp)(e:h.get? b=some o):(b,o)∈zfb fp h:=ycn.mpr ⟨b,hb,by rw [e];rfl⟩
def zi6(hp:p∈zfb fp h):p.1∈fp/\h.get? p.1=some p.2:=by
 obtain ⟨b,hb,e⟩:=ycn.mp hp
 cases q:h.get? b with
 | none=>rw [q] at e;cases e
 | some o =>
  rw [q] at e;have e':(b,o)=p:=Option.some.inj e;subst e';exact ⟨hb,q⟩
def Inv.pinned(I:Inv X pins σ H s)(hf:∀b∈fp,zkd X pins H b)(ho:∀b∈fp,∃o,s.heap.get? b=some o/\∀v,o.data≠.cell v):Inv X (pins++zfb fp s.heap) σ H s :=
 I.pins_of fun p hp=>(ybO.mp hp).elim (fun z=>I.pin p (yaN _ z)) fun z=>by
  obtain ⟨hb,e⟩:=zi6 z;obtain ⟨f0,f1,f2,_⟩:=hf p.1 hb;obtain ⟨o,e',d⟩:=ho p.1 hb;rw [e] at e';cases e';exact ⟨e,f0,f1,f2,d⟩
def Inv.unpinned(I:Inv X (pins++pl) σ H s):Inv X pins σ H s:=I.pins_of fun p hp=>I.pin p (yaN _ (ycP _ hp))
def zpO{iter:Expr}{body:List Stmt}{wi:TI}{g:TG}{tb:TS}{pos:Pos}(hp:PassesOwn (model X.prog X.w) X.A X.env X.xe)(hc:X.calm=true)(hi:PI X tg iter wi)(hg:PG X tg g)(hb:PSs X body tb)
  (hs:∀x,foldedSetIterable iter X.env x=pure x:=by intro _;rfl):PS X (.For tg iter body [] pos) (zwp wi g tb):=by
 intro pins s σ H D I h;refine wpAny_For (thn (hi pins s σ H _ I h) fun v s1 h1=>thn h1 fun itv s2 h2=>?_) hs;obtain ⟨it,fp,tn,J,H2,e,I2,T,st2,f2,W,⟨m0,w0⟩,turn⟩:=h2;subst e;have stat:∀{H':Hp},(∀b∈fp,H' b=none)->∀b∈fp,zkd X pins H' b:=fun hn b hb=>⟨hn b hb,(f2 b hb).2⟩
 refine codeAny_forLoop_any (fun n s'=>∃i σ' H',Inv X pins σ' H' s'/\tn i s'.heap/\(∀b∈fp,H' b=none)/\W i n σ' H') ?_ m0 ⟨0,σ,H2,I2,st2,fun b hb=>(f2 b hb).1,w0⟩;rintro n s3 ⟨i,σ3,H3,I3,st3,fr3,w3⟩
 rcases turn i n σ3 H3 w3 with ⟨stop,qn⟩ | ⟨go,N,hN,step⟩
 ·refine ybP hp (thn (T.done X rfl rfl rfl hc i pins s3 σ3 H3 X.xe I3 (stat fr3) st3 stop) fun r s4 ⟨hr,I4⟩=>?_);subst hr;exact ycm ⟨σ3,H3,I4,qn⟩
 ·refine ybP hp (thn (T.item X rfl rfl rfl hc i pins s3 σ3 H3 X.xe I3 (stat fr3) st3 go) fun r s4 ⟨u,hr,h4⟩=>?_);subst hr;refine ybP hp (thn h4 fun _ s5 ⟨x,H5,I5,r5,y5,st5,fr5⟩=>?_);have I5':=I5.pinned (stat fr5) (T.obj _ _ st5);refine ybP hp (thn (hg _ s5 σ3 H5 x u _ I5' r5 (step x H5 y5)) fun _ s6 ⟨σ6,H6,I6,q6⟩=>?_);refine ybP hp (thn (hb _ s6 σ6 H6 _ I6 q6) fun f s7 q7=>?_)
  have again:∀{σ7:St} {H7:Hp},Inv X (pins++zfb fp s5.heap) σ7 H7 s7->N σ7 H7->∃m,m<n/\∃i σ' H',Inv X pins σ' H' s7/\tn i s7.heap/\(∀b∈fp,H' b=none)/\W i m σ' H':=fun {σ7 H7} I7 n7=>by
   obtain ⟨m',hm,w7⟩:=hN σ7 H7 n7;refine ⟨m',hm,i+1,σ7,H7,I7.unpinned,T.keep _ _ _ st5 fun b hb o e=>(I7.pin (b,o) (yaN _ (yaN _ (zbZ hb e)))).1,fun b hb=>?_,w7⟩;obtain ⟨o,e,d⟩:=T.obj _ _ st5 b hb;exact (I7.pin (b,o) (yaN _ (yaN _ (zbZ hb e)))).2.1
  cases f with
  | next=>obtain ⟨σ7,H7,I7,n7⟩:=q7;exact again I7 n7
  | cont=>obtain ⟨σ7,H7,I7,n7⟩:=q7;exact again I7 n7
  | brk=>obtain ⟨σ7,H7,I7,q7⟩:=q7;exact ⟨σ7,H7,I7.unpinned,q7⟩
  | ret v=>obtain ⟨x7,σ7,H7,I7,r7,q7⟩:=q7;exact ⟨x7,σ7,H7,I7.unpinned,r7,q7⟩
end
noncomputable abbrev R2:=V->V->Hp->VK->Prop
noncomputable def OpR(X:Cx)(f:Value->Value->Sem Value)(r:R2):Prop :=
 ∀(pins:Z3) (s:Shared) (σ:St) (H:Hp) (x y:V) (v u:Value) (Q:VK),Inv X pins σ H s->zaI x v->zaI y u->r x y H Q →
  wpAny (model X.prog X.w) X.A (f v u) (EP X pins σ Q) X.xe s
noncomputable def UnR(X:Cx)(f:Value->Sem Value)(r:V->Hp->VK->Prop):Prop :=
 ∀(pins:Z3) (s:Shared) (σ:St) (H:Hp) (x:V) (v:Value) (Q:VK),Inv X pins σ H s->zaI x v->r x H Q →
  wpAny (model X.prog X.w) X.A (f v) (EP X pins σ Q) X.xe s
noncomputable def zbg(X:Cx)(f:Value)(r:List V->Hp->VK->Prop):Prop :=
 ∀(pins:Z3) (s:Shared) (σ:St) (H:Hp) (xs:List V) (us:List Value) (Q:VK),Inv X pins σ H s->Vals xs us->r xs H Q →
  wpAny (model X.prog X.w) X.A (call f us) (EP X pins σ Q) X.xe s
noncomputable def tOp(r:R2)(ta tb:TE):TE:=fun σ H Q=>ta σ H fun x H1=>tb σ H1 fun y H2=>r x y H2 Q
noncomputable def tUn(r:V->Hp->VK->Prop)(ta:TE):TE:=fun σ H Q=>ta σ H fun x H1=>r x H1 Q
noncomputable def rI(C:Int->Int->Prop)(g:Int->Int->V):R2:=fun x y H Q=>∃i j,x=.int i/\y=.int j/\C i j/\Q (g i j) H
noncomputable def rI0(g:Int->Int->V):R2:=fun x y H Q=>∃i j,x=.int i/\y=.int j/\Q (g i j) H
noncomputable def rU(g:Int->V):V->Hp->VK->Prop:=fun x H Q=>∃i,x=.int i/\Q (g i) H
section
variable{X:Cx}{a b c:Expr}{ta tb tc:TE}{pos:Pos}
def ztx(ha:PE X a ta)(hb:PE X b tb){pins:Z3}{s:Shared}{σ:St}{H:Hp}{R:V->V->Hp->Prop}(I:Inv X pins σ H s)
  (h:ta σ H fun x H1=>tb σ H1 fun y H2=>R x y H2) {Q:Z5} {f:Value->Value->Sem Value}
  (hf:∀v u s2 x y H2,Inv X pins σ H2 s2->zaI x v->zaI y u->R x y H2->wpAny (model X.prog X.w) X.A (f v u) Q X.xe s2) :
  wpAny (model X.prog X.w) X.A (eval a X.env) (fun v s₁=>wpAny (model X.prog X.w) X.A (eval b X.env) (fun u s₂=>wpAny (model X.prog X.w) X.A (f v u) Q X.xe s₂) X.xe s₁) X.xe s:=by
 refine thn (ha pins s σ H _ I h) fun v s1 ⟨x,H1,I1,r1,q1⟩=>?_
 refine thn (hb pins s1 σ H1 _ I1 q1) fun u s2 ⟨y,H2,I2,r2,q2⟩=>?_
 exact hf v u s2 x y H2 I2 r1 r2 q2
def zpT(ho:OpR X (binaryOp op) r)(ha:PE X a ta)(hb:PE X b tb):PE X (.BinOp a op b pos) (tOp r ta tb):=by
 intro pins s σ H Q I h;exact wpAny_BinOp (ztx ha hb I h fun v u s2 x y H2 I2 rx ry q=>ho pins s2 σ H2 x y v u Q I2 rx ry q)
def zsJ(ho:UnR X (unaryOp op) r)(ha:PE X a ta):PE X (.UnaryOp op a pos) (tUn r ta):=by
 intro pins s σ H Q I h;exact UnaryOp_ (thn (ha pins s σ H _ I h) fun v s1 ⟨x,H1,I1,r1,q1⟩=>ho pins s1 σ H1 x v Q I1 r1 q1)
def opI{f:Value->Value->Sem Value}{C:Int->Int->Prop}{g:Int->Int->Int}
  (rule:∀(i j:Int) (t u:Tok) (s:Shared) (Q:Z5) (E:Z5),C i j->Q (.int (g i j) s.toks) { s with toks:=s.toks+1 }->wpAny (model X.prog X.w) X.A (f (.int i t) (.int j u)) Q E s) :
  OpR X f (rI C fun i j=>.int (g i j)):=by
 intro pins s σ H x y v u Q I rx ry h;obtain ⟨i,j,rfl,rfl,hc,q⟩:=h;obtain ⟨t,rfl⟩:=rx;obtain ⟨t',rfl⟩:=ry;exact rule i j t t' s _ _ hc ⟨.int (g i j),H,I.tok _,⟨_,rfl⟩,q⟩
def zuJ{f:Value->Value->Sem Value}{g:Int->Int->Int}
  (rule:∀(i j:Int) (t u:Tok) (s:Shared) (Q:Z5) (E:Z5),Q (.int (g i j) s.toks) { s with toks:=s.toks+1 }->wpAny (model X.prog X.w) X.A (f (.int i t) (.int j u)) Q E s) :
  OpR X f (rI0 fun i j=>.int (g i j)):=by
 intro pins s σ H x y v u Q I rx ry h;obtain ⟨i,j,rfl,rfl,q⟩:=h;obtain ⟨t,rfl⟩:=rx;obtain ⟨t',rfl⟩:=ry;exact rule i j t t' s _ _ ⟨.int (g i j),H,I.tok _,⟨_,rfl⟩,q⟩
def zrJ{f:Value->Value->Sem Value}{g:Int->Int->Bool}
  (rule:∀(i j:Int) (t u:Tok) (s:Shared) (Q:Z5) (E:Z5),Q (.bool (g i j)) s->wpAny (model X.prog X.w) X.A (f (.int i t) (.int j u)) Q E s) :
  OpR X f (rI0 fun i j=>.bl (g i j)):=by
 intro pins s σ H x y v u Q I rx ry h;obtain ⟨i,j,rfl,rfl,q⟩:=h;obtain ⟨t,rfl⟩:=rx;obtain ⟨t',rfl⟩:=ry;exact rule i j t t' s _ _ ⟨.bl (g i j),H,I,rfl,q⟩
noncomputable def zxq(i j:Int):Prop:=0<j/\j<1073741824
noncomputable def zxp(i j:Int):Prop:=0<=j/\j<=1000000/\i.natAbs<2 ^ 64
noncomputable def ztL(i j:Int):Prop:=(-(2 ^ 64)<i/\i<2 ^ 64)\/(-(2 ^ 64)<j/\j<2 ^ 64)
def ztL.ok(h:ztL i j):IntMulOk i j:=by
 rcases h with ⟨h1,h2⟩ | ⟨h1,h2⟩
 ·exact .of_left (intBits_le_64 h1 h2)
 ·exact .of_right (intBits_le_64 h1 h2)
def zp9:OpR X (binaryOp .Add) (rI0 fun i j=>.int (i+j)):=zuJ fun _ _ _ _ _ _ _ q=>add_int q
def zp3:OpR X (binaryOp .Sub) (rI0 fun i j=>.int (i-j)):=zuJ fun _ _ _ _ _ _ _ q=>sub_int q
def zp5:OpR X (binaryOp .Mult) (rI ztL fun i j=>.int (i*j)):=opI fun _ _ _ _ _ _ _ hc q=>mul_int q hc.ok
theorem znL:OpR X (binaryOp .FloorDiv) (rI zxq fun i j=>.int (i / j)):=opI fun i j _ _ _ _ _ hc q=>by
 have h1:(0:Int)<j:=hc.1;have h2:j<1073741824:=hc.2;exact floordiv_int (by omega) (by rw [Int.fdiv_eq_ediv_of_nonneg i (by omega)];exact q) (.inl (PyProof.noPylong_small (by omega)))
theorem zp6:OpR X (binaryOp .Mod) (rI (fun _ j=>0<j) fun i j=>.int (i % j)):=opI fun i j _ _ _ _ _ hc q=>by
 have h1:(0:Int)<j:=hc;exact mod_int' (by omega) (by rw [Int.fmod_eq_emod_of_nonneg i (by omega)];exact q)
def zp4:OpR X (binaryOp .Pow) (rI zxp fun i j=>.int (i ^ j.toNat)):=opI fun _ _ _ _ _ _ _ hc q=>pow_int_small hc.1 hc.2.1 hc.2.2 q
def unI{f:Value->Sem Value}{g:Int->Int}
  (rule:∀(i:Int) (t:Tok) (s:Shared) (Q:Z5) (E:Z5),Q (.int (g i) s.toks) { s with toks:=s.toks+1 }->wpAny (model X.prog X.w) X.A (f (.int i t)) Q E s) :
  UnR X f (rU fun i=>.int (g i)):=by
 intro pins s σ H x v Q I rx h;obtain ⟨i,rfl,q⟩:=h;obtain ⟨t,rfl⟩:=rx;exact rule i t s _ _ ⟨.int (g i),H,I.tok _,⟨_,rfl⟩,q⟩
def zoS:UnR X (unaryOp .USub) (rU fun i=>.int (-i)):=unI fun _ _ _ _ _ q=>neg_int q
end
section
variable{X:Cx}{a b c:Expr}{ta tb tc:TE}{pos:Pos}
def zmu(I:Inv X pins σ H s)(q:Q (.bl k) H)(e:k=k'):EP X pins σ Q (.bool k') s:=by
 subst e;exact ⟨.bl k,H,I,rfl,q⟩
def zsO:OpR X (compareOp .Lt) (rI0 fun i j=>.bl (decide (i<j))):=zrJ fun _ _ _ _ _ _ _ q=>lt_int q
def zsP:OpR X (compareOp .LtE) (rI0 fun i j=>.bl (decide (i<=j))):=zrJ fun _ _ _ _ _ _ _ q=>le_int q
def zsQ:OpR X (compareOp .Gt) (rI0 fun i j=>.bl (decide (j<i))):=zrJ fun _ _ _ _ _ _ _ q=>gt_int q
def zsR:OpR X (compareOp .GtE) (rI0 fun i j=>.bl (decide (j<=i))):=zrJ fun _ _ _ _ _ _ _ q=>ge_int q
def zp7:OpR X (compareOp .Is) (fun x y H Q=>y=.non/\Q (.bl (decide (x=.non))) H):=by
 intro pins s σ H x y v u Q I rx ry h;obtain ⟨rfl,q⟩:=h;cases ry;refine is_none_gen (zmu I q ?_)
 cases x<;>first
  | (cases rx;rfl)
  | (obtain ⟨t,rfl⟩:=rx;rfl)
def znK:OpR X (compareOp .IsNot) (fun x y H Q=>y=.non/\Q (.bl (!decide (x=.non))) H):=by
 intro pins s σ H x y v u Q I rx ry h;obtain ⟨rfl,q⟩:=h;cases ry;refine isnot_none_gen (zmu I q ?_)
 cases x<;>first
  | (cases rx;rfl)
  | (obtain ⟨t,rfl⟩:=rx;rfl)
def zi1(ho:OpR X (compareOp op) r)(ha:PE X a ta)(hb:PE X b tb)(hm:behindInMarks op b=false):PE X (.Compare a [op] [b] pos) (tOp r ta tb):=by
 intro pins s σ H Q I h;exact wpAny_Compare1 (ztx ha hb I h fun v u s2 x y H2 I2 rx ry q=>ho pins s2 σ H2 x y v u Q I2 rx ry q) hm
noncomputable def zmR(t:TE):TT:=fun σ H Q=>t σ H fun x H'=>∃k,x=.bl k/\Q k H'
def ziK(ho:OpR X (compareOp op) r)(ha:PE X a ta)(hb:PE X b tb)(hm:behindInMarks op b=false):PT X (.Compare a [op] [b] pos) (zmR (tOp r ta tb)):=by
 intro pins s σ H Q I h
 refine wpAny_isTrue_Compare1 (thn (ha pins s σ H _ I h) fun v s1 ⟨x,H1,I1,r1,q1⟩=>thn (hb pins s1 σ H1 _ I1 q1) fun u s2 ⟨y,H2,I2,r2,q2⟩ =>
  thn (ho pins s2 σ H2 x y v u _ I2 r1 r2 q2) fun c s3 ⟨z,H3,I3,r3,k,e,q3⟩=>?_) hm
 subst e;cases r3;exact ybc ⟨H3,I3,q3⟩
noncomputable def zim(r r':R2)(ta tb tc:TE):TE:=fun σ H Q=>ta σ H fun x H1=>tb σ H1 fun y H2=>r x y H2 fun z H3=>∃k,z=.bl k ∧
 (if k=true then tc σ H3 fun w' H4=>r' y w' H4 Q else Q (.bl false) H3)
def zkU{op op':CmpOp}{r r':R2}(ho:OpR X (compareOp op) r)(ho':OpR X (compareOp op') r')(ha:PE X a ta)(hb:PE X b tb)(hc:PE X c tc)
  (hm:lastMarks [op,op'] [b,c]=false:=by with_unfolding_all rfl):PE X (.Compare a [op,op'] [b,c] pos) (zim r r' ta tb tc):=by
 intro pins s σ H Q I h
 refine Compare_chain (thn (ha pins s σ H _ I h) fun v s1 ⟨x,H1,I1,r1,q1⟩=>chain_link (thn (hb pins s1 σ H1 _ I1 q1) fun u s2 ⟨y,H2,I2,r2,q2⟩ =>
  thn (ho pins s2 σ H2 x y v u _ I2 r1 r2 q2) fun d s3 ⟨z,H3,I3,r3,k,e,q3⟩=>?_)) hm
 subst e;cases r3;refine ybc ?_
 cases k with
 | false=>exact ite_ff ⟨.bl false,H3,I3,rfl,q3⟩
 | true=>exact ite_tt (chain_last (thn (hc pins s3 σ H3 _ I3 q3) fun w' s4 ⟨z',H4,I4,r4,q4⟩=>ho' pins s4 σ H4 y z' u w' Q I4 r2 r4 q4))
def zkD{op op':CmpOp}{r r':R2}(ho:OpR X (compareOp op) r)(ho':OpR X (compareOp op') r')(ha:PE X a ta)(hb:PE X b tb)(hc:PE X c tc)
  (hm:lastMarks [op,op'] [b,c]=false:=by with_unfolding_all rfl):PT X (.Compare a [op,op'] [b,c] pos) (zmR (zim r r' ta tb tc)):=by
 intro pins s σ H Q I h
 refine isTrue_chain (thn (ha pins s σ H _ I h) fun v s1 ⟨x,H1,I1,r1,q1⟩=>test_link (thn (hb pins s1 σ H1 _ I1 q1) fun u s2 ⟨y,H2,I2,r2,q2⟩ =>
  thn (ho pins s2 σ H2 x y v u _ I2 r1 r2 q2) fun d s3 ⟨z,H3,I3,r3,k,e,q3⟩=>?_)) hm
 subst e;cases r3;refine ybc ?_
 cases k with
 | false =>
  obtain ⟨k',e',q'⟩:=q3;cases e';exact ite_ff ⟨H3,I3,q'⟩
 | true =>
  refine ite_tt (test_last (thn (hc pins s3 σ H3 _ I3 q3) fun w' s4 ⟨z',H4,I4,r4,q4⟩=>thn (ho' pins s4 σ H4 y z' u w' _ I4 r2 r4 q4) fun d' s5 ⟨z2,H5,I5,r5,k2,e2,q5⟩=>?_));subst e2;cases r5;exact ybc ⟨H5,I5,q5⟩
def zfk:(sizeLine:Nat)<2 ^ 63:=by rw [sizeLine_eq];decide
def zhJ:OpR X (binaryOp .Add) (fun x y H Q=>∃i j,x=.str i/\y=.str j/\i.length+j.length<=sizeLine/\Q (.str (i++j)) H):=by
 intro pins s σ H x y v u Q I rx ry h;obtain ⟨i,j,rfl,rfl,hz,q⟩:=h;obtain ⟨t,rfl⟩:=rx;obtain ⟨t',rfl⟩:=ry;exact add_str (fun t' tk=>⟨.str (i++j),H,I.tok _,⟨_,rfl⟩,q⟩) hz
def zce(r:Vals [x] us):∃u,us=[u]/\zaI x u:=by
 cases r with
 | cons r1 r2=>cases r2;exact ⟨_,rfl,r1⟩
def zoQ(r:Vals [x,y] us):∃u w',us=[u,w']/\zaI x u/\zaI y w':=by
 cases r with
 | cons r1 r2 =>
  cases r2 with
  | cons r3 r4=>cases r4;exact ⟨_,_,rfl,r1,r3⟩
def zlG:zbg X (.builtin "abs") (fun xs H Q=>∃i,xs=[.int i]/\Q (.int (if i<0 then -i else i)) H):=by
 intro pins s σ H xs us Q I r h;obtain ⟨i,rfl,q⟩:=h;obtain ⟨u,rfl,t,rfl⟩:=zce r;exact call_abs_int fun u tk=>⟨.int (if i<0 then -i else i),H,I.tok _,⟨_,rfl⟩,q⟩
def zjZ(hc:X.calm=true):zbg X (.builtin "max") (fun xs H Q=>∃i j,xs=[.int i,.int j]/\Q (.int (if j > i then j else i)) H):=by
 intro pins s σ H xs us Q I r h;obtain ⟨i,j,rfl,q⟩:=h;obtain ⟨u,w',rfl,⟨t,rfl⟩,⟨t',rfl⟩⟩:=zoQ r;refine max_two_ints (I.ok.hd hc) fun h' tk k=>⟨_,H,I.kept k,?_,q⟩
 by_cases hj:j > i
 ·rw [if_pos hj,if_pos hj];exact ⟨_,rfl⟩
 ·rw [if_neg hj,if_neg hj];exact ⟨_,rfl⟩
def zjY(hc:X.calm=true):zbg X (.builtin "min") (fun xs H Q=>∃i j,xs=[.int i,.int j]/\Q (.int (if j<i then j else i)) H):=by
 intro pins s σ H xs us Q I r h;obtain ⟨i,j,rfl,q⟩:=h;obtain ⟨u,w',rfl,⟨t,rfl⟩,⟨t',rfl⟩⟩:=zoQ r;refine min_two_ints (I.ok.hd hc) fun h' tk k=>⟨_,H,I.kept k,?_,q⟩
 by_cases hj:j<i
 ·rw [if_pos hj,if_pos hj];exact ⟨_,rfl⟩
 ·rw [if_neg hj,if_neg hj];exact ⟨_,rfl⟩
def zfH:zbg X (.type "int") (fun xs H Q=>(∃i,xs=[.int i]/\Q (.int i) H)\/∃k,xs=[.bl k]/\Q (.int (if k then 1 else 0)) H):=by
 intro pins s σ H xs us Q I r h
 rcases h with ⟨i,rfl,q⟩ | ⟨k,rfl,q⟩
 ·obtain ⟨u,rfl,t,rfl⟩:=zce r;exact call_int_int ⟨.int i,H,I,⟨_,rfl⟩,q⟩
 ·obtain ⟨u,rfl,r1⟩:=zce r;cases r1;exact call_int_bool ⟨.int (if k then 1 else 0),H,I.tok _,⟨_,rfl⟩,q⟩
end
structure ObjM(h:Heap)(x dx C:Addr)(mA:Z6):Prop where
 obj:h.get? x=some (PySem.W.instObj C dx)
 ns:h.Ns1 dx mA
 ne:dx≠x
def zjh{h:Heap}{mA:Z6}(n:h.Ns1 dx mA):∃od,h.get? dx=some od/\∀name,PySem.W.lookIn name od=some (mA name):=by
 obtain ⟨o,es,ep,ho,hd,hk,_,hm⟩:=n;refine ⟨o,ho,fun name=>?_⟩;have e:=hm name;unfold nsFind findBy at e;rw [<-Array.find?_toList] at e;unfold PySem.W.lookIn;rw [hd];dsimp only;split
 ·rename_i y q;rw [q] at e;exact congrArg some e
 ·rename_i q;rw [q] at e
  have a:es.toList.any (·.refKey)=false:=by
   rw [List.any_eq_false];intro y hy;obtain ⟨z,t,hkey⟩:=hk y (Array.mem_toList_iff.mp hy);simp [DictEntry.refKey,hkey]
  have a':¬ es.toList.any (·.refKey)=true:=by rw [a];exact yaG
  rw [if_neg a'];exact congrArg some e
def ObjM.look(I:ObjM h x dx C mA):∃od,PySem.W.InstAt h x (PySem.W.instObj C dx) C (some od)/\∀name,PySem.W.lookIn name od=some (mA name) :=
 let ⟨od,ho,hl⟩:=zjh I.ns
 ⟨od,⟨I.obj,rfl,rfl,ho⟩,hl⟩
section
variable{prog:Program}{w:World}{A:Around}{E:Z5}{s:Shared}{K:PySem.W.Frag}{x dx C f:Addr}{mA:Z6}{name:Str}{v:Value}
def zoh{expr:Bool}{Q:Z5}(X:K.In s.heap)(I:ObjM s.heap x dx C mA)(hg:PySem.W.plainGet K C name=true)(hh:PySem.W.hasDictIn K C=true)
  (ha:PySem.W.findIn K (.ref C) name=some none) (hv:mA name=some v) (hv':PySem.W.handedIn v=true) (h:Q v { s with toks:=s.toks+1 }) :
  wpAny (model prog w) A (getAttr (.ref x) name expr) Q E s:=by
 obtain ⟨od,J,hl⟩:=I.look;exact PySem.W.get_value X J (ycX hg).1 (PySem.W.findObj_own hh ha rfl (by rw [hl,hv])) hv' h
def zlp(X:K.In s.heap)(I:ObjM s.heap x dx C mA)(hg:PySem.W.plainGet K C name=true)
  (hf:PySem.W.findIn K (.ref C) name=some (some (.ref f))) (ht:PySem.W.isFn K (.ref f)=true) (hv:mA name=none) (h:Q (.ref f,[.ref x]) s) :
  wpAny (model prog w) A (getMethod (.ref x) name pl) Q E s:=by
 obtain ⟨od,J,hl⟩:=I.look;exact PySem.W.method_fn X J (ycX hg).1 (ycX hg).2 hf (ybV.mp ht) (by show (PySem.W.lookIn name od).map (·.isSome)=some false;rw [hl,hv];rfl) h
theorem zni{ns:List Str}{Q:Unit->Shared->Prop}(X:K.In s.heap)(I:ObjM s.heap x dx C mA)
  (hs:PySem.W.findIn K (.ref C) "__setattr__" = some (some (.builtin "object.__setattr__"))) (hp:PySem.W.plainOver K C=true) (ht:PySem.W.takerIn K C name=some none) (hh:PySem.W.hasDictIn K C=true)
  (hw:PySem.Within mA ns) (hsz:ns.length<=sizeLine)
  (h:∀h',ObjM h' x dx C (fun y=>if y=name then some v else mA y)->Heap.SameBut dx s.heap h'->Q () { s with heap:=h',toks:=s.toks+2 }) :
  wpAny (model prog w) A (setAttr (.ref x) name v) Q E s:=by
 obtain ⟨od,J,hl⟩:=I.look;refine PySem.W.set_plain X J hs (PySem.W.osa_open (s:={ s with toks:=s.toks+1 }) (r:=none) X J hp ht fun b=>?_);obtain ⟨cd,hc,hd'⟩:=PySem.W.any_some hh;have hx:s.heap.get? x=some ⟨.ref C,some dx,.plain,#[]⟩:=I.obj;refine yaa (yae (yaa (yaa (wpAny_loadPart hx (yaa (PySem.W.Looks.here (s:={ s with toks:=s.toks+1 }) (PySem.W.looks_clsIn X hc) ?_))))));rw [hd'];refine yae (a:=some dx) (yaa (yae (yaa ?_)));refine wpAny_nsSet1 (s:={ s with toks:=s.toks+1 }) I.ns fun h' hn2 hs2=>?_
 obtain ⟨oD,esD,epD,hoD,hdD,hcD⟩:=hn2.count (PySem.Within.cons name v hw);refine yaa (wpAny_lookBehind hoD (by rw [hdD];exact pastItsLine_dict (yas hcD (by rw [yam];omega))) ?_);exact yae (h _ ⟨(hs2.2 _ (Ne.symm I.ne)).trans I.obj,hn2,I.ne⟩ hs2)
def zla{R:Result->Shared->Prop}{vs:List Value}{kw:List (Str×Value)}(X:K.In s.heap)(hm:PySem.W.makesIn K C=true)
  (hi:PySem.W.findIn K (.ref C) "__init__" = some (some (.ref f))) (hf:PySem.W.typeIn K (.ref f)=some (.type "function"))
  (h:codeAny (model prog w) (A.under (.builtin "type.__call__" ⟨.ref C::vs,kw⟩)) (.call (.ref f) ⟨.ref (s.heap.objs.size+1)::vs,kw⟩) (PySem.W.InitBack (s.heap.objs.size+1) R)
   { s with heap:=(s.heap.push PySem.W.emptyDict).push (PySem.W.instObj C s.heap.objs.size) }) :
  codeAny (model prog w) A (.call (.ref C) ⟨vs,kw⟩) R s:=by
 obtain ⟨hh,g,d,t,os⟩:=s;exact PySem.W.make_core (PySem.W.makes_of X hm) (PySem.W.looks_findIn X hi) (fun self=>PySem.W.bind_fn X self hf) (.inl rfl) h
end
noncomputable def zcg(f:Str)(v:V):List (Str×V)->List (Str×V)
 | []=>[(f,v)]
 | (g,x)::r=>if g=f then (g,v)::r else (g,x)::zcg f v r
theorem zdp(f g:Str)(v:V):∀fs:List (Str×V),(zcg f v fs).lookup g=if g=f then some v else fs.lookup g
 | []=>by
  show List.lookup g [(f,v)]=_
  by_cases h:g=f
  ·have hb:(g == f)=true:=ybV.mpr h;simp only [List.lookup,hb,if_pos h]
  ·have hb:(g == f)=false:=ya0.mpr h;simp only [List.lookup,hb,if_neg h]
 | (k,x)::r=>by
  have ih:=zdp f g v r;rw [show zcg f v ((k,x)::r)=(if k=f then (k,v)::r else (k,x)::zcg f v r) from rfl]
  by_cases hk:k=f
  ·rw [if_pos hk]
   by_cases h:g=k
   ·have hb:(g == k)=true:=ybV.mpr h;simp only [List.lookup,hb,if_pos (h.trans hk)]
   ·have hb:(g == k)=false:=ya0.mpr h;simp only [List.lookup,hb,if_neg (fun e:g=f=>h (e.trans hk.symm))]
  ·rw [if_neg hk]
   by_cases h:g=k
   ·have hb:(g == k)=true:=ybV.mpr h;simp only [List.lookup,hb,if_neg (fun e:g=f=>hk (h.symm.trans e))]
   ·have hb:(g == k)=false:=ya0.mpr h;simp only [List.lookup,hb];exact ih
theorem zdr(f:Str)(v:V):∀fs:List (Str×V),f∈(zcg f v fs).map (·.1)/\∀g,g∈fs.map (·.1)->g∈(zcg f v fs).map (·.1)
 | []=>⟨by simp [zcg],fun g h=>by simp at h⟩
 | (k,x)::r=>by
  obtain ⟨i1,i2⟩:=zdr f v r;rw [show zcg f v ((k,x)::r)=(if k=f then (k,v)::r else (k,x)::zcg f v r) from rfl]
  by_cases hk:k=f
  ·rw [if_pos hk];subst hk;exact ⟨by simp,fun g h=>by simpa using h⟩
  ·rw [if_neg hk];refine ⟨?_,fun g h=>?_⟩
   ·rw [yaR];exact yar _ i1
   ·rw [yaR] at h ⊢
    rcases yan.mp h with e | e
    ·exact yan.mpr (.inl e)
    ·exact yar _ (i2 g e)
theorem zdq(f:Str)(v:V):∀fs:List (Str×V),(zcg f v fs).length<=fs.length+1
 | []=>by simp [zcg]
 | (k,x)::r=>by
  have ih:=zdq f v r;rw [show zcg f v ((k,x)::r)=(if k=f then (k,v)::r else (k,x)::zcg f v r) from rfl]
  by_cases hk:k=f
  ·rw [if_pos hk,yam,yam];omega
  ·rw [if_neg hk,yam,yam];omega
def zkf.some_of(r:zkf (some v) o):∃u,o=some u/\zaI v u:=by
 cases o with
 | none=>exact (show False from r).elim
 | some u=>exact ⟨u,rfl,r⟩
def zkf.none_of(r:zkf none o):o=none:=by
 cases o with
 | none=>rfl
 | some u=>exact (show False from r).elim
def zjA(r:zaI v u):PySem.W.handedIn u=true:=by
 cases v with
 | non=>cases (show u=Value.none from r);rfl
 | bl b=>cases (show u=Value.bool b from r);rfl
 | int i=>obtain ⟨t,e⟩:=(show ∃t,u=Value.int i t from r);cases e;rfl
 | str x=>obtain ⟨t,e⟩:=(show ∃t,u=Value.str x t from r);cases e;rfl
 | byt b=>obtain ⟨t,e⟩:=(show ∃t,u=Value.bytes b t from r);cases e;rfl
 | flt b=>obtain ⟨t,e⟩:=(show ∃t,u=Value.float b t from r);cases e;rfl
 | ref a=>cases (show u=Value.ref a from r);rfl
 | ty n=>cases (show u=Value.type n from r);rfl
section
variable{P:Program}{w:World}{H H':Hp}{h h':Heap}{a C dx:Addr}{fs fs':List (Str×V)}
def zeD(hok:HOk P w H h)(e:H a=some (.ins C dx fs)):∃mA,ObjM h a dx C mA/\(∀f,zkf (fs.lookup f) (mA f))/\PySem.Within mA (fs.map (·.1))/\fs.length<=1000/\H dx=some (.own a):=by
 obtain ⟨d,z,ne,ob,mA,n,r,q⟩:=(show zaX P w H h a (.ins C dx fs) from hok a _ e);exact ⟨mA,⟨ob,n,ne⟩,r,q,z,d⟩
end
structure Cls(K:PySem.W.Frag)(C:Addr):Prop where
 pg:PySem.W.plainGet K C Str.empty=true
 hd:PySem.W.hasDictIn K C=true
 po:PySem.W.plainOver K C=true
 sa:PySem.W.findIn K (.ref C) "__setattr__" = some (some (.builtin "object.__setattr__"))
def Cls.get{K:PySem.W.Frag}(c:Cls K C)(f:Str):PySem.W.plainGet K C f=true:=c.pg
noncomputable def zcd(K:PySem.W.Frag)(C:Addr)(f:Str):Prop:=PySem.W.findIn K (.ref C) f=some none
def zcd.taker{K:PySem.W.Frag}(n:zcd K C f):PySem.W.takerIn K C f=some none:=by
 unfold PySem.W.takerIn;rw [show PySem.W.findIn K (.ref C) f=some none from n];rfl
structure Meth(K:PySem.W.Frag)(C:Addr)(m:Str)(f:Addr):Prop where
 at_:PySem.W.findIn K (.ref C) m=some (some (.ref f))
 fn:PySem.W.isFn K (.ref f)=true
 kp:PySem.W.keepIn K (.ref f)=true
section
variable{X:Cx}{pins:Z3}{σ:St}{H:Hp}{s:Shared}{a C dx:Addr}{fs:List (Str×V)}{f:Str}{v:V}{A:Around}{E:Z5}
def zhR(I:Inv X pins σ H s)(e:H a=some (.ins C dx fs))(c:Cls X.K C)(n:zcd X.K C f)(l:fs.lookup f=some v)
  (h:∀u s',Inv X pins σ H s'->zaI v u->Q u s'):wpAny (model X.prog X.w) A (getAttr (.ref a) f b) Q E s:=by
 obtain ⟨mA,O,r,_,_,_⟩:=zeD I.hok e;obtain ⟨u,hu,ru⟩:=zkf.some_of (v:=v) (o:=mA f) (by rw [<-l];exact r f);exact zoh I.kIn O (c.get f) c.hd n hu (zjA ru) (h u _ (I.tok _) ru)
def zd4(I:Inv X pins σ H s)(e:H a=some (.ins C dx fs))(c:Cls X.K C)(k:Meth X.K C m g)(l:fs.lookup m=none)
  (h:Q (.ref g,[.ref a]) s):wpAny (model X.prog X.w) A (getMethod (.ref a) m pl) Q E s:=by
 obtain ⟨mA,O,r,_,_,_⟩:=zeD I.hok e;have hn:mA m=none:=zkf.none_of (by rw [<-l];exact r m);exact zlp I.kIn O (c.get m) k.at_ k.fn hn h
def zhD(I:Inv X pins σ H s)(e:H a=some (.ins C dx fs))(c:Cls X.K C)(n:zcd X.K C f)(hl:fs.length<1000)(ry:zaI y u)
  (h:∀s',Inv X pins σ (upd H a (.ins C dx (zcg f y fs))) s'->Q () s'):wpAny (model X.prog X.w) A (setAttr (.ref a) f u) Q E s:=by
 obtain ⟨mA,O,r,wi,_,ho⟩:=zeD I.hok e
 have hz:(fs.map (·.1)).length<=sizeLine:=by rw [yao,sizeLine_eq];omega
 refine zni I.kIn O c.sa c.po n.taker c.hd wi hz fun h' O' sb=>h _ ?_
 have hd:∃o,h'.get? dx=some o:=let ⟨o,_,_,e',_⟩:=O'.ns;⟨o,e'⟩
 refine I.write (x:=a) (e:=dx) (by rw [e];exact True.intro) (.inr ho) (fun b q hb z=>(sb.2 b hb).trans z) hd ?_;refine ⟨by rw [zad O.ne];exact ho,?_,O.ne,O'.obj,_,O'.ns,fun g=>?_,fun g hg=>?_⟩
 ·have:=zdq f y fs;omega
 ·show zkf ((zcg f y fs).lookup g) (if g=f then some u else mA g);rw [zdp]
  by_cases q:g=f
  ·rw [if_pos q,if_pos q];exact ry
  ·rw [if_neg q,if_neg q];exact r g
 ·by_cases q:g=f
  ·rw [q];exact (zdr f y fs).1
  ·refine (zdr f y fs).2 g (wi g fun z=>hg ?_);show (if g=f then some u else mA g)=none;rw [if_neg q];exact z
def Inv.made(I:Inv X pins σ H s):Inv X pins σ (upd (upd H s.heap.objs.size (.own (s.heap.objs.size+1))) (s.heap.objs.size+1) (.ins C s.heap.objs.size []))
  { s with heap:=(s.heap.push PySem.W.emptyDict).push (PySem.W.instObj C s.heap.objs.size) }:=by
 have e1:(s.heap.push PySem.W.emptyDict).get? s.heap.objs.size=some PySem.W.emptyDict:=yag s.heap rfl
 have e2:((s.heap.push PySem.W.emptyDict).push (PySem.W.instObj C s.heap.objs.size)).get? (s.heap.objs.size+1)=some (PySem.W.instObj C s.heap.objs.size):=by
  have:=yag (s.heap.push PySem.W.emptyDict) (o:=PySem.W.instObj C s.heap.objs.size) rfl
  rwa [yaS] at this
 have e3:(s.heap.push PySem.W.emptyDict).Ns s.heap.objs.size (fun _=>none):=⟨PySem.W.emptyDict,#[],_,e1,rfl,(fun e he=>absurd he (by simp)),fun _=>rfl⟩;have I1:=I.laid (a:=s.heap.objs.size) (o:=.own (s.heap.objs.size+1)) (h':=s.heap.push PySem.W.emptyDict) (t':=s.toks) (fun b u q=>yad _ q) (yah _) ⟨_,e1⟩;refine I1.laid (a:=s.heap.objs.size+1) (o:=.ins C s.heap.objs.size []) (t':=s.toks) (fun b u q=>yad _ q) (Nat.le_of_eq (yaS _ _)) ?_;have ne:s.heap.objs.size≠s.heap.objs.size+1:=yap (ybj _);refine ⟨by rw [zad ne,zaj],ya1 _,ne,e2,fun _=>none,(Heap.Ns1.of_empty e3).at fun o q=>yad _ q,fun _=>True.intro,fun y hy=>absurd rfl hy⟩
def zox(hb:attributeBase e f env (eval e env)=eval e env)
  (h:wpAny (model prog w) A (eval e env) (fun o s₁=>wpAny (model prog w) A (getAttr o f true) Q E s₁) E s):wpAny (model prog w) A (eval (.Attribute e f pos) env) Q E s :=
 Attribute_any_ h (by rw [arm_eval_Attribute,hb])
end
noncomputable def zuy(K:PySem.W.Frag)(ta:TE)(f:Str):TE:=fun σ H Q=>ta σ H fun x H1=>∃a C dx fs v,x=.ref a/\H1 a=some (.ins C dx fs)/\Cls K C/\zcd K C f/\fs.lookup f=some v/\Q v H1
noncomputable def zws(K:PySem.W.Frag)(ta tv:TE)(f:Str):TS:=fun D σ H=>tv σ H fun y H1=>ta σ H1 fun x H2=>∃a C dx fs,x=.ref a/\H2 a=some (.ins C dx fs)/\Cls K C/\zcd K C f/\fs.length<1000 ∧
 D.nx σ (upd H2 a (.ins C dx (zcg f y fs)))
noncomputable def zvK(X:Cx)(op:Operator)(rd:V->V->Hp->VK->Prop):Prop :=
 ∀(pins:Z3) (s:Shared) (σ:St) (H:Hp) (x y:V) (u v:Value) (Q:VK),Inv X pins σ H s->zaI x u->zaI y v->rd x y H Q->wpAny (model X.prog X.w) X.A (inplaceOp op u v) (EP X pins σ Q) X.xe s
section
variable{X:Cx}{o e value:Expr}{f:Str}{pos pos' tpos:Pos}{ta tv:TE}
def zfc(he:PE X e ta)(hb:attributeBase e f X.env (eval e X.env)=eval e X.env):PE X (.Attribute e f pos) (zuy X.K ta f):=by
 intro pins s σ H Q I h;refine zox hb (thn (he pins s σ H _ I h) fun u s1 ⟨x,H1,I1,rx,a,C,dx,fs,v,ex,ea,c,n,l,q⟩=>?_);subst ex;obtain rfl:u=Value.ref a:=rx;exact zhR I1 ea c n l fun u' s2 I2 ru=>⟨v,H1,I2,ru,q⟩
def zma(ha:PE X o ta)(hv:PE X value tv)(hs:swapsWith value (some (.Attribute o f pos')) pos.line X.env=pure false):PS X (.Assign [.Attribute o f pos'] value pos) (zws X.K ta tv f):=by
 intro pins s σ H D I h;refine plainObj_wpAny_Assign_Attribute (thn (hv pins s σ H _ I h) fun u s1 ⟨y,H1,I1,ry,q⟩=>thn (ha pins s1 σ H1 _ I1 q) fun ov s2 ⟨x,H2,I2,rx,a,C,dx,fs,ex,ea,c,n,l,q2⟩=>?_) hs;subst ex;obtain rfl:ov=Value.ref a:=rx;exact zhD I2 ea c n l ry fun s3 I3=>⟨σ,_,I3,q2⟩
noncomputable def zuE:V->V->Hp->VK->Prop:=fun x y H Q=>∃i j,x=.int i/\y=.int j/\Q (.int (i+j)) H
noncomputable def zuD:V->V->Hp->VK->Prop:=fun x y H Q=>∃i j,x=.int i/\y=.int j/\Q (.int (i-j)) H
def zqO:zvK X .Add zuE:=by
 rintro pins s σ H x y u v Q I rx ry ⟨i,j,rfl,rfl,q⟩;obtain ⟨t,rfl⟩:=(show ∃t,u=Value.int i t from rx);obtain ⟨t',rfl⟩:=(show ∃t',v=Value.int j t' from ry);exact PyProof.Rows.iadd_int ⟨.int (i+j),H,I.tok _,⟨_,rfl⟩,q⟩
def zqN:zvK X .Sub zuD:=by
 rintro pins s σ H x y u v Q I rx ry ⟨i,j,rfl,rfl,q⟩;obtain ⟨t,rfl⟩:=(show ∃t,u=Value.int i t from rx);obtain ⟨t',rfl⟩:=(show ∃t',v=Value.int j t' from ry);exact PyProof.Rows.isub_int ⟨.int (i-j),H,I.tok _,⟨_,rfl⟩,q⟩
end
section
variable{X:Cx}{pins:Z3}{σ:St}{H:Hp}{s:Shared}{A:Around}{E:Z5}{Q:Z5}{c:Value}{b:Bool}
inductive TyOf(K:PySem.W.Frag)(H:Hp):V->Value->Prop where
 | non:TyOf K H .non (.type "NoneType")
 | bl (x:Bool):TyOf K H (.bl x) (.type "bool")
 | int (i:Int):TyOf K H (.int i) (.type "int")
 | str (x:Str):TyOf K H (.str x) (.type "str")
 | flt (x:UInt64):TyOf K H (.flt x) (.type "float")
 | lst {a:Addr} {xs:List V} (e:H a=some (.lst xs)):TyOf K H (.ref a) (.type "list")
 | frz {a:Addr} {o:Obj} {xs:List V} (e:H a=some (.frz o (.lst xs))):TyOf K H (.ref a) (.type "list")
 | tup {a:Addr} {xs:List V} (e:H a=some (.tup xs)):TyOf K H (.ref a) (.type "tuple")
 | dK {a:Addr} {kvs:List (Key×V)} (e:H a=some (.dK kvs)):TyOf K H (.ref a) (.type "dict")
 | dT {a:Addr} {kvs:List (List Key×V)} (e:H a=some (.dT kvs)):TyOf K H (.ref a) (.type "dict")
 | ins {a C dx:Addr} {fs:List (Str×V)} (e:H a=some (.ins C dx fs)) (cl:Cls K C) (ha:PySem.W.findIn K (.ref C) "__class__" = some (some (.builtin "object.__class__")))
   (hn:PySem.W.specialIn K (.builtin "object.__class__") "__get__" = some (some (.builtin "getset_descriptor.__get__"))) (htk:PySem.W.takesIn K (.builtin "object.__class__")=some true)
   (hm:PySem.W.mroIn K C (.type "object")=some true):TyOf K H (.ref a) (.ref C)
def zjt{x:V}{u t:Value}(I:Inv X pins σ H s)(rx:zaI x u)(ty:TyOf X.K H x t)(e:PySem.W.kitOne X.K t c=some b)(h:∀tk,Q (.bool b) { s with toks:=tk }) :
  wpAny (model X.prog X.w) A (call (.builtin "isinstance") [u,c]) Q E s:=by
 cases ty with
 | non=>cases (show u=Value.none from rx);exact ya5 PySem.W.kitx_none I.kIn True.intro e (fun z=>nomatch z) h
 | bl y=>cases (show u=Value.bool y from rx);exact ya5 PySem.W.kitx_bool I.kIn True.intro e (fun z=>nomatch z) h
 | int i=>obtain ⟨t,q⟩:=(show ∃t,u=Value.int i t from rx);cases q;exact ya5 PySem.W.kitx_int I.kIn True.intro e (fun z=>nomatch z) h
 | str y=>obtain ⟨t,q⟩:=(show ∃t,u=Value.str y t from rx);cases q;exact ya5 PySem.W.kitx_str I.kIn True.intro e (fun z=>nomatch z) h
 | flt y=>obtain ⟨t,q⟩:=(show ∃t,u=Value.float y t from rx);cases q;exact ya5 PySem.W.kitx_float I.kIn True.intro e (fun z=>nomatch z) h
 | @lst a xs ea =>
  cases (show u=Value.ref a from rx);obtain ⟨_,_,n,_,h1⟩:=(show zaX X.prog X.w H s.heap a (.lst xs) from I.hok a _ ea);exact ya5 PySem.W.kitx_list I.kIn ⟨_,h1,rfl⟩ e (fun z=>nomatch z) h
 | @frz a ob xs ea =>
  cases (show u=Value.ref a from rx);obtain ⟨_,_,_,n,_,h1⟩:=(show zaX X.prog X.w H s.heap a (.frz ob (.lst xs)) from I.hok a _ ea);exact ya5 PySem.W.kitx_list I.kIn ⟨_,h1,rfl⟩ e (fun z=>nomatch z) h
 | @tup a xs ea =>
  cases (show u=Value.ref a from rx);obtain ⟨_,_,_,p⟩:=(show zaX X.prog X.w H s.heap a (.tup xs) from I.hok a _ ea);obtain ⟨o,h1,h2,_⟩:=p;exact ya5 PySem.W.kitx_tuple I.kIn ⟨o,h1,h2⟩ e (fun z=>nomatch z) h
 | @dK a kvs ea =>
  cases (show u=Value.ref a from rx);obtain ⟨_,_,vs,_,p⟩:=(show zaX X.prog X.w H s.heap a (.dK kvs) from I.hok a _ ea);obtain ⟨o,es,ep,h1,h2,_⟩:=p;exact ya5 PySem.W.kitx_dict I.kIn ⟨o,h1,h2.1⟩ e (fun z=>nomatch z) h
 | @dT a kvs ea =>
  cases (show u=Value.ref a from rx);obtain ⟨_,_,xs,_,o,es,ep,h1,h2,_⟩:=(show zaX X.prog X.w H s.heap a (.dT kvs) from I.hok a _ ea);exact ya5 PySem.W.kitx_dict I.kIn ⟨o,h1,h2.1⟩ e (fun z=>nomatch z) h
 | @ins a C dx fs ea cl ha hn htk hm =>
  cases (show u=Value.ref a from rx);obtain ⟨mA,O,_⟩:=zeD I.hok ea;obtain ⟨od,J,_⟩:=O.look;exact ya5 (PySem.W.kitx_own (cl.get _) cl.hd ha hn htk hm) I.kIn J e (fun z=>nomatch z) h
end
structure Room(k:Nat)(A:Around):Prop where
 hd:A.handled=none
 dp:A.depth+3*k+5<recursionLimit
 un:A.units+16*k+200<cLine
theorem Room.mono(r:Room k A)(h:j<=k):Room j A:=⟨r.hd,by have:=r.dp;omega,by have:=r.un;omega⟩
theorem Room.deeper(r:Room (k+1) A)(env:Env):Room k (A.deeper env) :=
 ⟨r.hd,by have:=r.dp;show A.depth+1+3*k+5<_;omega,by have:=r.un;show A.units+3+16*k+200<_;omega⟩
def zhN{A:Around}:(A.under (.builtin "type.__call__" ⟨.ref C::us,kw⟩)).depth=A.depth+1:=by
 first | rfl | simp [Around.under,Code.weight,Code.isCreation,Code.isGuard,Code.isCaller,Code.frames,Code.isFrame,guardIds]
def zhM{A:Around}:(A.under (.builtin "type.__call__" ⟨.ref C::us,kw⟩)).units=A.units+1:=by
 first | rfl | simp [Around.under,Code.cUnits,Code.frames,Code.isFrame]
theorem Room.make(r:Room (k+1) A)(C:Addr)(us:List Value)(kw:List (Str×Value)):Room k (A.under (.builtin "type.__call__" ⟨.ref C::us,kw⟩)) :=
 ⟨r.hd,by have:=r.dp;rw [zhN];omega,by have:=r.un;rw [zhM];omega⟩
theorem Room.depth(r:Room k A):A.depth<recursionLimit:=by have:=r.dp;omega
theorem Room.units(r:Room k A):A.units+64<cLine:=by have:=r.un;omega
noncomputable def zrC:TA:=fun _ H Q=>Q [] H
noncomputable def zmT(ta:TE)(tr:TA):TA:=fun σ H Q=>ta σ H fun x H1=>tr σ H1 fun xs H2=>Q (x::xs) H2
section
variable{X:Cx}{e:Expr}{es:List Expr}{te:TE}{t:TA}{pos:Pos}
def zaV:PA X [] zrC:=fun _ _ _ _ H Q I h=>yde ⟨[],H,I,.nil,h⟩
def zat(ha:PE X e te)(hr:PA X es t)(hs:starEach (e::es) X.env=(false,eval e X.env)::starEach es X.env:=by rfl):PA X (e::es) (zmT te t):=by
 intro pos pins s σ H Q I h;rw [hs];show wpAny _ _ (spliced ((false,eval e X.env)::backTo pos (starEach es X.env))) _ _ s;refine yco (thn (ha pins s σ H _ I h) fun u s1 ⟨x,H1,I1,r1,q1⟩=>?_);exact thn (hr pos pins s1 σ H1 _ I1 q1) fun us s2 ⟨xs,H2,I2,r2,q2⟩=>⟨x::xs,H2,I2,.cons r1 r2,q2⟩
noncomputable def zwi(t:TA):TE:=fun σ H Q=>t σ H fun xs H1=>xs.length<=sizeLine/\∀p,H1 p=none->Q (.ref p) (upd H1 p (.tup xs))
noncomputable def zwm(t:TA):TE:=fun σ H Q=>t σ H fun xs H1=>xs.length<=sizeLine/\∀p,H1 p=none->Q (.ref p) (upd H1 p (.lst xs))
def ziY{x1}(h:PA X es t):PE X (.Tuple es x1 pos) (zwi t):=by
 intro pins s σ H Q I hq;refine wpAny_Tuple_spliced (thn (h pos pins s σ H _ I hq) fun us s1 ⟨xs,H1,I1,r,z,q⟩=>⟨by rw [<-r.length];exact z,?_⟩);have hf:H1 s1.heap.objs.size=none:=I1.hok.fresh (yah _);refine ⟨.ref s1.heap.objs.size,upd H1 s1.heap.objs.size (.tup xs),I1.laid (t':=s1.toks) (fun b u e=>yad _ e) (yah _) ?_,rfl,q _ hf⟩;exact ⟨z,us,r,⟨_,yag _ rfl,rfl,_,rfl,rfl⟩⟩
def zi0(h:PA X es t):PE X (.List es pos) (zwm t):=by
 intro pins s σ H Q I hq;refine wpAny_List_spliced (thn (h pos pins s σ H _ I hq) fun us s1 ⟨xs,H1,I1,r,z,q⟩=>⟨by rw [<-r.length];exact z,?_⟩);have hf:H1 s1.heap.objs.size=none:=I1.hok.fresh (yah _);refine ⟨.ref s1.heap.objs.size,upd H1 s1.heap.objs.size (.lst xs),I1.laid (t':=s1.toks) (fun b u e=>yad _ e) (yah _) ?_,rfl,q _ hf⟩;exact ⟨z,us,0,r,yag _ rfl⟩
end
noncomputable abbrev Sp:=List V->Hp->VK->XK->Prop
noncomputable abbrev CXT:=List Env->Hp->Shared->XK->Value->Shared->Prop
structure Env0(P:Program)(w:World)(K:PySem.W.Frag)(mg:Z6)(base:Heap)(A:Around)(outer:List Env)(s:Shared)(H:Hp):Prop where
 frames:A.frames=some outer
 mod:Mod K mg base
 bs:∀b o,base.get? b=some o->s.heap.get? b=some o/\H b=none
 bsz:base.objs.size<=s.heap.objs.size
 funs:s.heap.FunFrames base outer
 frf:∀b∈frs outer,H b=none
 hok:HOk P w H s.heap
 bare:AllBare s.gens
noncomputable def CE(outer:List Env)(P:Program)(w:World)(H:Hp)(s:Shared)(Q:VK)(u:Value)(s':Shared):Prop :=
 ∃v H',s'.os=s.os/\AllBare s'.gens/\Un (frs outer) [] H H' s.heap s'.heap/\HOk P w H' s'.heap/\zaI v u/\Q v H'
noncomputable def CR(CX:CXT)(outer:List Env)(P:Program)(w:World)(H:Hp)(s:Shared)(Q:VK)(E:XK)(r:Result)(s':Shared):Prop :=
 match r with
 | .ok (.ret u)=>CE outer P w H s Q u s'
 | .ok _=>False
 | .error e=>CX outer H s E e s'
structure FnOk(P:Program)(w:World)(K:PySem.W.Frag)(mg:Z6)(base:Heap)(CX:CXT)(k:Nat)(f:Addr)(fd:FuncData)(ps:List Str)(sp:Sp):Prop where
 len:∀vs H Q E,sp vs H Q E->vs.length=ps.length
 run:∀(A:Around) (outer:List Env) (s:Shared) (H:Hp) (args:Args) (us:List Value) (vs:List V) (Q:VK) (E:XK),Room k A->Env0 P w K mg base A outer s H->BindsTo s fd args (ps.zip us)->Vals vs us->sp vs H Q E →
  codeAny (model P w) A (.call (.ref f) args) (CR CX outer P w H s Q E) s
theorem FnOk.mono{P:Program}{K:PySem.W.Frag}{j k:Nat}(F:FnOk P w K mg base CX j f fd ps sp)(h:j<=k) :
  FnOk P w K mg base CX k f fd ps sp:=⟨F.len,fun A outer s H args us vs Q E hr=>F.run A outer s H args us vs Q E (hr.mono h)⟩
def FnOk.imp{P:Program}{K:PySem.W.Frag}{k:Nat}(F:FnOk P w K mg base CX k f fd ps sp)
  (h:∀vs H Q E,sp' vs H Q E->sp vs H Q E):FnOk P w K mg base CX k f fd ps sp' :=
 ⟨fun vs H Q E q=>F.len vs H Q E (h _ _ _ _ q),fun A outer s H args us vs Q E hr he hb hv hs=>F.run A outer s H args us vs Q E hr he hb hv (h _ _ _ _ hs)⟩
def Env0.make{P:Program}{K:PySem.W.Frag}{A:Around}(e:Env0 P w K mg base A outer s H)(C:Addr)(us:List Value)(kw:List (Str×Value)) :
  Env0 P w K mg base (A.under (.builtin "type.__call__" ⟨.ref C::us,kw⟩)) outer s H:=⟨by first | exact e.frames | (simpa [Around.under,Code.envs,Code.isFrame,pushEnvs] using e.frames),e.mod,e.bs,e.bsz,e.funs,e.frf,e.hok,e.bare⟩
section
variable{X:Cx}{pins:Z3}{σ:St}{H:Hp}{s s':Shared}
def Inv.env0(I:Inv X pins σ H s):Env0 X.prog X.w X.K X.mg X.base X.A X.stack s H :=
 ⟨I.ok.frames,I.ok.mod,I.bs,yas I.ok.bsz I.sz,I.stack,I.stkFree,I.hok,I.bare⟩
def Inv.after(I:Inv X pins σ H s)(h:CE X.stack X.prog X.w H s Q u s'):EP X pins σ Q u s':=by
 obtain ⟨v,H',os,bare,un,hok,r,q⟩:=h;obtain ⟨hh,g,d,t,os'⟩:=s';obtain rfl:os'=s.os:=os;exact ⟨v,H',I.call (h':=hh) (g':=g) (d':=d) (t':=t) (ch:=[]) un hok bare (fun b z=>absurd z (by simp)),r,q⟩
end
noncomputable def zb5(K:PySem.W.Frag)(fd:FuncData)(ps:List Str)(ds:List Value):Prop :=
 ∀(s:Shared) (us:List Value),K.In s.heap->(us++ds).length=ps.length->BindsTo s fd ⟨us,[]⟩ (ps.zip (us++ds))
def zb5.all{K:PySem.W.Frag}{ps:List Str}(h:∀us:List Value,us.length=ps.length->bindArgs fd ⟨us,[]⟩=pure (ps.zip us)):zb5 K fd ps []:=fun s us _ hl=>by
 rw [yaV] at hl ⊢;exact .of_eq (h us hl)
noncomputable def zmF(CX:CXT)(X:Cx)(E:XK):Prop:=∀(pins:Z3) (σ:St) (H:Hp) (s:Shared) (e:Value) (s':Shared),Inv X pins σ H s->CX X.stack H s E e s'->X.xe e s'
section
variable{X:Cx}{CX:CXT}{k:Nat}{f C:Addr}{fd:FuncData}{ps:List Str}{sp:Sp}{dvs:List V}{ds:List Value}{E:XK}{x m:Str}{p pos apos:Pos}{e o:Expr}{es:List Expr}{ta:TE}{t:TA}
structure Mk(K:PySem.W.Frag)(C f:Addr):Prop where
 makes:PySem.W.makesIn K C=true
 init:PySem.W.findIn K (.ref C) "__init__" = some (some (.ref f))
 fn:PySem.W.isFn K (.ref f)=true
 kp:PySem.W.keepIn K (.ref C)=true
end
structure FnScope(N P:List Str)(sc:Scope):Prop where
 kind:sc.kind=.function
 co:sc.isCoroutine=false
 gen:sc.isGenerator=false
 nd:N.Nodup
 pre:N.take P.length=P
 par:∀x∈P,sc.names.lookup x=some .local\/sc.names.lookup x=some .cell
 nofree:∀y∈sc.names,y.2≠.free
theorem zfL{kindOf:Str->Option NameKind}:∀{binds:List (Str×Value)} {m:Z6},(∀v,(x,v) ∉ binds)->bindL kindOf binds m x=m x
 | [],_,_=>rfl
 | (n,v)::r,m,h=>by
  unfold bindL;rw [zfL fun w hw=>h w (yar _ hw)];split
  ·have:x≠n:=by rintro rfl;exact h v yaE
   simp [this]
  ·rfl
theorem zfN{kindOf:Str->Option NameKind}:∀{binds:List (Str×Value)} {m:Z6},(∀v,(x,v) ∉ binds)->bindC kindOf binds m x=m x
 | [],_,_=>rfl
 | (n,v)::r,m,h=>by
  unfold bindC;rw [zfN fun w hw=>h w (yar _ hw)];split
  ·rfl
  ·have:x≠n:=by rintro rfl;exact h v yaE
   simp [this]
theorem zfM{kindOf:Str->Option NameKind}:∀{P:List Str} {vs:List Value} {i:Nat} {m:Z6},P.Nodup->P[i]?=some x->vs[i]?=some v->kindOf x=some .local →
  bindL kindOf (P.zip vs) m x=some v
 | [],_,_,_,_,h,_,_=>by simp at h
 | _::_,[],_,_,_,_,h,_=>by simp at h
 | p::P,w::vs,0,m,nd,h1,h2,hk=>by
  simp at h1 h2;subst h1;subst h2;show bindL kindOf ((p,w)::P.zip vs) m p=_;unfold bindL;rw [zfL fun v hv=>(ybQ.mp nd).1 (ycp hv).1,if_pos hk];simp
 | p::P,w::vs,i+1,m,nd,h1,h2,hk=>by
  show bindL kindOf ((p,w)::P.zip vs) m x=_;unfold bindL;exact zfM (i:=i) (ybQ.mp nd).2 (by simpa using h1) (by simpa using h2) hk
theorem zfO{kindOf:Str->Option NameKind}:∀{P:List Str} {vs:List Value} {i:Nat} {m:Z6},P.Nodup->P[i]?=some x->vs[i]?=some v->kindOf x≠some .local →
  bindC kindOf (P.zip vs) m x=some v
 | [],_,_,_,_,h,_,_=>by simp at h
 | _::_,[],_,_,_,_,h,_=>by simp at h
 | p::P,w::vs,0,m,nd,h1,h2,hk=>by
  simp at h1 h2;subst h1;subst h2;show bindC kindOf ((p,w)::P.zip vs) m p=_;unfold bindC;rw [zfN fun v hv=>(ybQ.mp nd).1 (ycp hv).1,if_neg hk];simp
 | p::P,w::vs,i+1,m,nd,h1,h2,hk=>by
  show bindC kindOf ((p,w)::P.zip vs) m x=_;unfold bindC;exact zfO (i:=i) (ybQ.mp nd).2 (by simpa using h1) (by simpa using h2) hk
noncomputable def zbI(N:List Str)(vs:List V):St:=vs.map some++List.replicate (N.length-vs.length) none
noncomputable def zfA(CX:CXT)(P:Program)(w:World)(K:PySem.W.Frag)(mg:Z6)(base:Heap)(N:List Str)(qual:Str)(scope:Scope)(f:Addr)(cd:Value)(A:Around)(outer:List Env)(s:Shared)(H:Hp)(E:XK):Cx where
 prog:=P
 w:=w
 K:=K
 mg:=mg
 base:=base
 A:=A.deeper (envOfC qual scope s.heap.objs.size f cd)
 N:=N
 s₀:=s
 H₀:=H
 env:=envOfC qual scope s.heap.objs.size f cd
 outer:=outer
 stack:=envOfC qual scope s.heap.objs.size f cd::outer
 ex:=[]
 calm:=true
 fn:=fun _=>true
 pn:=[]
 xe:=fun e s'=>wpAny (model P w) (A.deeper (envOfC qual scope s.heap.objs.size f cd)) (leaving (envOfC qual scope s.heap.objs.size f cd) e) (fun _ s''=>CX outer H s E e s'') (fun e' s''=>CX outer H s E e' s'') s'
def zhh{sc:Scope}(h:sc.names.lookup x=some .cell):∃c,(cellsFrom n sc.names []).lookup x=some c:=by
 have q:=ybX sc.names n [] (.inl h);exact Option.isSome_iff_exists.mp q
theorem zdv{P:Program}{K:PySem.W.Frag}{N ps:List Str}{scope:Scope}{A:Around}{s s1:Shared}{vs:List V}
  (S:FnScope N ps scope) (hd:A.handled=none) (e0:Env0 P w K mg base A outer s H) (hl:vs.length=ps.length) (r:Vals vs us)
  (x:InCallC s s.heap.objs.size (bindL (envOfC qual scope s.heap.objs.size f cd).kindOf (ps.zip us) fun _=>none) (cellsFrom (s.heap.objs.size+1) scope.names []) (bindC (envOfC qual scope s.heap.objs.size f cd).kindOf (ps.zip us) fun _=>none) s1) :
  Inv (zfA CX P w K mg base N qual scope f cd A outer s H E) [] (zbI N vs) H s1:=by
 have hpl:ps.length<=N.length:=by have:=congrArg List.length S.pre;rw [yaH] at this;omega
 obtain ⟨h1,tk,rfl,hk⟩:=x.done;have noA:∀b:Addr,b ∉ (zfA CX P w K mg base N qual scope f cd A outer s H E).ex:=fun b z=>absurd (show b∈([]:List Addr) from z) (by simp)
 refine ⟨⟨e0.mod,S.kind,rfl,rfl,yah _,fun y z c h1 h2=>?_,fun y hy=>?_,fun y c _ h=>?_,fun _=>hd,Around.frames_deeper e0.frames,.inr ⟨rfl,rfl⟩,fun b z=>absurd z (noA b),e0.bs,e0.bsz,fun b _ _=>noA b,fun b z=>absurd z (noA b),e0.funs,e0.frf⟩,
  rfl,e0.bare,Un.kept hk,⟨_,x.toInCall.ns,fun i y v h1 h2 h3=>?_⟩,fun y c h=>⟨_,x.cell y c h⟩,e0.hok.fresh (yah _),fun y c h=>?_,fun p hp=>absurd (show p∈([]:Z3) from hp) (by simp),e0.hok.kept hk,?_⟩
 ·exact name_of_addr x.apart (yax h1) (yax h2)
 ·have hy:scope.names.lookup y=some .cell\/scope.names.lookup y=some .free:=hy
  rcases hy with hy | hy
  ·exact zhh hy
  ·exact absurd rfl (S.nofree _ (yax hy))
 ·exact ycG (x.above y c (yax h))
 ·have hi:i<vs.length:=by
   unfold zbI at h2
   by_cases hi:i<vs.length
   ·exact hi
   ·rw [yav (by simpa using hi)] at h2;rw [ybz] at h2
    split at h2<;>cases h2
  have ha:vs[i]?=some v:=by
   unfold zbI at h2;rw [yaF (by simpa using hi),yaq] at h2
   cases e:vs[i]? with
   | none=>rw [e] at h2;cases h2
   | some a=>rw [e] at h2;cases h2;rfl
  obtain ⟨u,hu,rv⟩:=r.get ha
  have hp:ps[i]?=some y:=by
   rw [<-S.pre,List.getElem?_take_of_lt (by omega)];exact h1
  have ndP:ps.Nodup:=by rw [<-S.pre];exact S.nd.sublist (List.take_sublist _ _)
  refine ⟨u,rv,?_⟩
  rcases S.par y (ya8 hp) with k | k
  ·exact .inl ⟨k,zfM ndP hp hu k⟩
  ·obtain ⟨c,e⟩:=zhh (n:=s.heap.objs.size+1) k;refine .inr ⟨.inl k,c,e,?_⟩;have q:=x.cell y c e;rw [zfO ndP hp hu (by show scope.names.lookup y≠_;rw [k];decide)] at q;exact q
 ·exact e0.hok.fresh (ycG (x.above y c (yax h)))
 ·unfold zbI;show _=N.length;rw [yau,yao,yaO];omega
def zqS{CX:CXT}{P:Program}{w:World}{K:PySem.W.Frag}{mg:Z6}{base:Heap}{k:Nat}{f:Addr}{name qual:Str}{params:Arguments}{body:List Stmt}{scope:Scope}{dV kV doc pm cdv ct oc:Value}{an od:Option Addr}
  {osl:Array (Option Value)} {N ps:List Str} {sp:Sp} (lk:K.lookup f=some ⟨oc,od,.func (PySem.W.fnOf name qual params body scope dV kV doc pm an cdv ct),osl⟩) (hcd:PySem.W.codeIn K cdv qual=true) (S:FnScope N ps scope)
  (len:∀vs H Q E,sp vs H Q E->vs.length=ps.length)
  (hbody:∀(A:Around) (outer:List Env) (s:Shared) (H:Hp) (vs:List V) (Q:VK) (E:XK),Room k (A.deeper (envOfC qual scope s.heap.objs.size f cdv))->sp vs H Q E →
   ∃t,PSs (zfA CX P w K mg base N qual scope f cdv A outer s H E) body t/\t { nx:=fun _ H'=>Q .non H',rt:=Q } (zbI N vs) H) :
  FnOk P w K mg base CX (k+1) f (PySem.W.fnOf name qual params body scope dV kV doc pm an cdv ct) ps sp:=by
 refine ⟨len,fun A outer s H args us vs Q E hr e0 hb r hsp=>?_⟩;have hl:=len _ _ _ _ hsp;have KX:K.In s.heap:=e0.mod.kin.keeps fun b o e=>(e0.bs b o e).1
 have lim:s.heap.NoLimit:=e0.mod.nolimit.keeps fun b o e=>(e0.bs b o e).1
 have hkind:∀y∈ps.zip us,scope.names.lookup y.1=some .local\/(scope.names.lookup y.1=some .cell/\((cellsFrom (s.heap.objs.size+1) scope.names []).lookup y.1).isSome=true):=fun ⟨n,v⟩ hy=>by
  rcases S.par n (ycp hy).1 with q | q
  ·exact .inl q
  ·exact .inr ⟨q,ybX _ _ _ (.inl q)⟩
 refine ycH hr.depth (KX _ _ lk) rfl S.co S.gen rfl (yc6 KX hcd) (hb _ _ _ _ ?_);refine yca S.kind hkind fun env he s1 x=>?_
 subst he;refine ⟨lim.keeps x.toInCall.keep,codeAny_func ?_⟩;obtain ⟨t,ht,hq⟩:=hbody A outer s H vs Q E (hr.deeper _) hsp;have I:Inv (zfA CX P w K mg base N qual scope f cdv A outer s H E) [] (zbI N vs) H s1:=zdv S hr.hd e0 hl r x;refine ybb (ht [] s1 (zbI N vs) H _ I hq) (fun fl s' hs=>?_) fun e s' hs=>hs
 have fin:∀{σ':St} {H':Hp} {v:V} {u:Value},Inv (zfA CX P w K mg base N qual scope f cdv A outer s H E) [] σ' H' s'->zaI v u->Q v H'->CE outer P w H s Q u s' :=
  fun {σ' H' v u} J rv q=>⟨v,H',J.os,J.bare,J.base,J.hok,rv,q⟩
 cases fl with
 | ret u =>
  obtain ⟨v,σ',H',J,rv,q⟩:=hs;exact fin J rv q
 | next =>
  obtain ⟨σ',H',J,q⟩:=hs;exact fin (v:=V.non) (u:=Value.none) J rfl q
 | brk =>
  obtain ⟨_,_,_,q⟩:=hs;exact False.elim q
 | cont =>
  obtain ⟨_,_,_,q⟩:=hs;exact False.elim q
section
variable{X:Cx}{x:Str}{p pos:Pos}{e:Expr}{es:List Expr}{t:TA}{id T:String}{r:List V->Hp->VK->Prop}
noncomputable def tCB(r:List V->Hp->VK->Prop)(t:TA):TE:=fun σ H Q=>t σ H fun vs H1=>r vs H1 Q
def zcq(hc:zbg X (.builtin id) r)(hg:Gl X x)(hm:X.mg x=none)(hv:bootBuiltins x=some (.builtin id))(ha:PA X (e::es) t)(hn:x ≠ "__name__":=by decide)(hdb:(x == ("__debug__":Str))=false:=by decide)
  (he:starEach (e::es) X.env=(false,eval e X.env)::starEach es X.env:=by rfl) (hpl:(backTo pos (starEach es X.env)).any (·.1)=false:=by rfl):PE X (.Call (.Name x p) (e::es) [] pos) (tCB r t):=by
 intro pins s σ H Q I h;refine ya9 (zbp I hg hm hv ?_ hn hdb);exact PyProof.Rows.callWith_builtin1 (thn (ha pos pins s σ H _ I h) fun us s1 ⟨vs,H1,I1,r1,q1⟩=>hc pins s1 σ H1 vs us Q I1 r1 q1) he hpl
def zbP(hc:zbg X (.type T) r)(hg:Gl X x)(hm:X.mg x=none)(hv:bootBuiltins x=some (.type T))(ha:PA X (e::es) t)(hn:x ≠ "__name__":=by decide)(hdb:(x == ("__debug__":Str))=false:=by decide)
  (he:starEach (e::es) X.env=(false,eval e X.env)::starEach es X.env:=by rfl) (hpl:(backTo pos (starEach es X.env)).any (·.1)=false:=by rfl):PE X (.Call (.Name x p) (e::es) [] pos) (tCB r t):=by
 intro pins s σ H Q I h;refine ya9 (zbp I hg hm hv ?_ hn hdb);exact yaC (thn (ha pos pins s σ H _ I h) fun us s1 ⟨vs,H1,I1,r1,q1⟩=>hc pins s1 σ H1 vs us Q I1 r1 q1) he hpl
end
end L2
namespace HT
open PySem PyProof.Rows
section
open PySem.SeqAt
open PySem.AutoSeq1 (wpAny_loadPart')
open PySem.MeetsSeq PySem.MeetsSeq2 PySem.MeetsSeq3
end
section
variable{prog:Program}{w:World}{A:Around}{E:Z5}{s:Shared}
def zor{t b:Addr}{vs ws:List Value}{Q:Z5}(ht:IsTup s.heap t vs.toArray)(hb:IsTup s.heap b ws.toArray)(hv:vs≠[])
  (h1:ws=[]->Q (.ref t) s) (h2:ws≠[]->Q (.ref s.heap.objs.size) { s with heap:=s.heap.push { cls:=.type "tuple",data:=.seq (vs++ws).toArray } })
  (hsz:vs.length+ws.length<=sizeLine):wpAny (model prog w) A (binaryOp .Add (.ref t) (.ref b)) Q E s:=by
 obtain ⟨⟨cls,dd,data,sl⟩,ho,hc,n,hd⟩:=id ht;obtain ⟨⟨cls2,dd2,data2,sl2⟩,ho2,hc2,n2,hd2⟩:=id hb;simp only at hc hd hc2 hd2;subst hc hd hc2 hd2
 have e:vs.toArray++ws.toArray=(vs++ws).toArray:=by simp
 by_cases hw:ws=[]
 ·exact concat_meets ⟨_,ho,rfl⟩ ⟨_,ho2,rfl⟩ noFill_tuple_add seq_tuple_add ycy ycq (yck _ _)
   (tuple_addW1 t b vs.toArray ws.toArray n n2 dd dd2 sl sl2 (by simpa using hv) (by simp [hw])) ⟨ho,ho2,h1 hw⟩
 ·refine concat_meets ⟨_,ho,rfl⟩ ⟨_,ho2,rfl⟩ noFill_tuple_add seq_tuple_add ycy ycq (yck _ _)
   (tuple_addW2 t b vs.toArray ws.toArray n n2 dd dd2 sl sl2 (by simpa using hv) (by simpa using hw) (by rw [yaf,yaf];exact hsz)) ⟨ho,ho2,?_⟩
  rw [e];exact h2 hw
noncomputable def sIx(n d:Nat):Option Int->Nat
 | none=>d
 | some v=>if v<0 then (v+(n:Int)).toNat else min v.toNat n
theorem zpB(n d:Nat)(hd:d<=n)(o:Option Int):sIx n d o<=n:=by
 cases o with
 | none=>exact hd
 | some v =>
  show (if v<0 then (v+(n:Int)).toNat else min v.toNat n)<=n
  by_cases hv:v<0
  ·rw [if_pos hv];omega
  ·rw [if_neg hv];exact Nat.min_le_right _ _
theorem zjU(v:Int)(n d:Nat):(if v<0 then max (v+(n:Int)) 0 else min v (n:Int))=((sIx n d (some v):Nat):Int):=by
 show (if v<0 then max (v+(n:Int)) 0 else min v (n:Int))=(((if v<0 then (v+(n:Int)).toNat else min v.toNat n):Nat):Int)
 by_cases hv:v<0
 ·simp only [if_pos hv];omega
 ·simp only [if_neg hv];omega
theorem zh6(lo hi:Option Int)(n:Nat):Builtin.Slice.sliceAdjust lo hi 1 (n:Int)=(((sIx n 0 lo:Nat):Int),((sIx n n hi:Nat):Int)):=by
 have h1:¬ ((1:Int)<0):=by omega
 unfold Builtin.Slice.sliceAdjust;simp only [h1,ybs];refine Prod.ext ?_ ?_
 ·cases lo with
  | none=>rfl
  | some v=>exact zjU v n 0
 ·cases hi with
  | none=>rfl
  | some v=>exact zjU v n n
theorem zhG(i j:Nat):Builtin.Slice.slicePlaces (i:Int) (j:Int) 1=j-i:=by
 unfold Builtin.Slice.slicePlaces
 have h1:(1:Int) > 0:=by omega
 simp only [h1,ybY,Int.ediv_one]
 split<;>omega
def zdV(p:IsPart v o)(h:Q o s):wpAny (model prog w) A (Builtin.Slice.slicePartIndex v) Q E s:=by
 cases p with
 | none=>exact slicePart_none h
 | int i t=>exact slicePart_int h
def zbB{sl:Addr}{vl vu:Value}{lo hi:Option Int}{n:Nat}{Q:Int×Int×Nat->Shared->Prop}(hs:s.heap.IsSliceOf sl vl vu .none)(pl:IsPart vl lo)(pu:IsPart vu hi)
  (h:Q (((sIx n 0 lo:Nat):Int),1,sIx n n hi-sIx n 0 lo) s):wpAny (model prog w) A (Builtin.Slice.sliceApplied (.ref sl) (pure (n:Int))) Q E s:=by
 obtain ⟨os,hos,hcs,hds⟩:=id hs;unfold Builtin.Slice.sliceApplied Builtin.Slice.sliceFields;refine yaa (yaa (ya2 hos hds (x:=vl) rfl (yaa (ya2 hos hds (x:=vu) rfl (yaa (ya2 hos hds (x:=.none) rfl (yae ?_)))))));refine yaa (slicePart_none ?_);show wpAny _ _ (if ((1:Int) == 0)=true then _ else _) _ _ s;rw [if_neg (by decide)];refine yaa (zdV pl (yaa (zdV pu (yaa (yae ?_)))));show wpAny _ _ (match Builtin.Slice.sliceAdjust lo hi 1 (n:Int) with | (lo,hi)=>pure (lo,(1:Int),Builtin.Slice.slicePlaces lo hi 1)) _ _ s;rw [zh6 lo hi n];show wpAny _ _ (pure (((sIx n 0 lo:Nat):Int),(1:Int),Builtin.Slice.slicePlaces ((sIx n 0 lo:Nat):Int) ((sIx n n hi:Nat):Int) 1)) _ _ s;rw [zhG];exact yae h
theorem zkJ(xs:Array Value)(i k:Nat):((List.range k).filterMap fun (m:Nat)=>xs[((i:Int)+(m:Int)*1).toNat]?).toArray=((xs.toList.drop i).take k).toArray:=by
 have e:(fun (m:Nat)=>xs[((i:Int)+(m:Int)*1).toNat]?)=fun m=>xs[i+m]?:=by
  funext m
  have:((i:Int)+(m:Int)*1).toNat=i+m:=by omega
  rw [this]
 rw [e];have:=pick_run xs i k;rw [List.filterMap_map] at this;have e2:((fun x=>xs[x]?)∘fun x=>i+x)=fun m=>xs[i+m]?:=rfl
 rw [e2] at this;rw [this]
theorem zcQ{t sl:Addr}{items:Array Value}{vl vu:Value}{lo hi:Option Int}{Q:Z5}(ht:IsTup s.heap t items)(hs:s.heap.IsSliceOf sl vl vu .none)(pl:IsPart vl lo)(pu:IsPart vu hi)
  (hw:¬ (sIx items.size 0 lo=0/\sIx items.size items.size hi=items.size))
  (h:Q (.ref s.heap.objs.size) { s with heap:=s.heap.push { cls:=.type "tuple",data:=.seq ((items.toList.drop (sIx items.size 0 lo)).take (sIx items.size items.size hi-sIx items.size 0 lo)).toArray } })
  (hsz:items.size<=sizeLine):wpAny (model prog w) A (getItem (.ref t) (.ref sl)) Q E s:=by
 have htake:sizeOk (.seq ((items.toList.drop (sIx items.size 0 lo)).take (sIx items.size items.size hi-sIx items.size 0 lo)).toArray):=by
  show ((items.toList.drop (sIx items.size 0 lo)).take (sIx items.size items.size hi-sIx items.size 0 lo)).toArray.size<=sizeLine;rw [yaf,yaH,ycj,yaz];omega
 have hj:sIx items.size items.size hi<=items.size:=zpB _ _ (yah _) hi;obtain ⟨os,hos,hcs,hds⟩:=id hs;have hTs:s.TypeIs (.ref sl) "slice":=⟨os,hos,hcs⟩;unfold getItem
 try with_reducible refine ybp ?_
 first | refine yaa (yae ?_) | skip
 refine yaa (wpAny_sequenceKey ht.typeIs (by decide) ?_)
 refine yaa (yaM (name:=Str.ofString "__getitem__") ht.typeIs yaW
  (yaI yaW ht.typeIs entry_tuple_getitem ?_ (args_tuple_getitem _ _)))
 show wpAny _ _ (Builtin.Tuple.tupleItemsOf (.ref t) >>= _) _ _ s;refine yaa (tupleItemsOf_ ht ?_);refine yaa (yb2 hTs ?_);rw [if_pos (by decide)];refine yaa (zbB hs pl pu ?_)
 have hno:¬ ((((sIx items.size 0 lo:Nat):Int) == 0&&(1:Int) == 1&&(sIx items.size items.size hi-sIx items.size 0 lo) == items.size)=true):=by
  intro q;rw [yab,yab] at q;have q1:((sIx items.size 0 lo:Nat):Int)=0:=eq_of_beq q.1.1;have q2:sIx items.size items.size hi-sIx items.size 0 lo=items.size:=eq_of_beq q.2;exact hw ⟨by omega,by omega⟩
 show wpAny _ _ (if (((sIx items.size 0 lo:Nat):Int) == 0&&(1:Int) == 1&&(sIx items.size items.size hi-sIx items.size 0 lo) == items.size)=true then _ else _) _ _ s;rw [if_neg hno,zkJ]
 first
  | exact yaa (m:=Builtin.Tuple.tupleExact _) (yaK (yae ⟨_,rfl,yae h⟩) htake)
  | exact yaa (m:=Builtin.Tuple.tupleExact _) (yaK (yaa (yae (yae ⟨_,rfl,yae h⟩))) htake)
  | exact yaa (yaa (m:=Builtin.Tuple.tupleExact _) (yaK (yae (yae ⟨_,rfl,yae h⟩)) htake))
  | exact yaa (yaa (m:=Builtin.Tuple.tupleExact _) (yaK (yae ⟨_,rfl,yae h⟩) htake))
end
end HT
namespace L2
open PySem PySem.Spec PyProof.Rows
noncomputable abbrev TO:=St->Hp->(Option Int->Hp->Prop)->Prop
noncomputable def PO(X:Cx)(e:Option Expr)(t:TO):Prop :=
 ∀(pins:Z3) (s:Shared) (σ:St) (H:Hp) (Q:Option Int->Hp->Prop),Inv X pins σ H s->t σ H Q →
  wpAny (model X.prog X.w) X.A (evalPart e X.env) (fun u s'=>∃o H',Inv X pins σ H' s'/\IsPart u o/\Q o H') X.xe s
noncomputable def zik:TO:=fun _ H Q=>Q none H
noncomputable def zo1(t:TE):TO:=fun σ H Q=>t σ H fun x H1=>∃i,x=.int i/\Q (some i) H1
section
variable{X:Cx}{e:Expr}{te:TE}{lo hi:Option Expr}{tl th:TO}{pos p2:Pos}
def znD:PO X none zik:=by
 intro pins s σ H Q I h;rw [evalPart_none];exact yae ⟨none,H,I,.none,h⟩
def znC(h:PE X e te):PO X (some e) (zo1 te):=by
 intro pins s σ H Q I hw;rw [evalPart_some];refine thn (h pins s σ H _ I hw) fun u s1 ⟨x,H1,I1,r1,q1⟩=>?_
 obtain ⟨i,rfl,q⟩:=q1;obtain ⟨t,rfl⟩:=r1;exact ⟨some i,H1,I1,.int i t,q⟩
noncomputable def SlR(X:Cx)(r:V->Option Int->Option Int->Hp->VK->Prop):Prop :=
 ∀(pins:Z3) (s:Shared) (σ:St) (H:Hp) (x:V) (v vl vu:Value) (lo hi:Option Int) (sl:Addr) (Q:VK),Inv X pins σ H s->zaI x v->s.heap.IsSliceOf sl vl vu .none->IsPart vl lo->IsPart vu hi->r x lo hi H Q →
  ∃T id,typeLookup (.type T) "__getitem__" = pure (some (.builtin id))/\s.TypeIs v T/\wpAny (model X.prog X.w) X.A (getItem v (.ref sl)) (EP X pins σ Q) X.xe s
noncomputable def tSl(r:V->Option Int->Option Int->Hp->VK->Prop)(te:TE)(tl th:TO):TE:=fun σ H Q=>te σ H fun x H1=>tl σ H1 fun l H2=>th σ H2 fun u H3=>r x l u H3 Q
def zkN(hr:SlR X r)(he:PE X e te)(hl:PO X lo tl)(hu:PO X hi th):PE X (.Subscript e (.Slice lo hi none p2) pos) (tSl r te tl th):=by
 intro pins s σ H Q I h;refine Subscript_ (thn (he pins s σ H _ I h) fun v s1 ⟨x,H1,I1,r1,q1⟩=>?_);refine wpAny_Slice (thn (hl pins s1 σ H1 _ I1 q1) fun vl s2 ⟨l,H2,I2,pl,q2⟩=>thn (hu pins s2 σ H2 _ I2 q2) fun vu s3 ⟨u,H3,I3,pu,q3⟩=>?_);rw [evalPart_none];refine yae ?_;have I4:Inv X pins σ H3 { s3 with heap:=s3.heap.push { cls:=.type "slice",data:=.fields #[vl,vu,.none] } }:=I3.kept (t':=s3.toks) fun b ob q=>yad _ q
 obtain ⟨T,id,hT,ht,hg⟩:=hr pins { s3 with heap:=s3.heap.push { cls:=.type "slice",data:=.fields #[vl,vu,.none] } } σ H3 x v vl vu l u s3.heap.objs.size Q I4 r1 (Heap.IsSliceOf.new ..) pl pu q3;show wpAny (model X.prog X.w) X.A (subscriptTail e (.Slice lo hi none p2) v (.ref s3.heap.objs.size)) (EP X pins σ Q) X.xe { s3 with heap:=s3.heap.push { cls:=.type "slice",data:=.fields #[vl,vu,.none] } };exact tail_any (ops:=[.ref s3.heap.objs.size,v]) ht hT hg (by with_unfolding_all rfl)
def zmz(xs:List V)(lo hi:Option Int):List V:=(xs.drop (HT.sIx xs.length 0 lo)).take (HT.sIx xs.length xs.length hi-HT.sIx xs.length 0 lo)
theorem zdF(xs:List V)(lo hi:Option Int):(zmz xs lo hi).length<=xs.length:=by
 unfold zmz;rw [yaH,ycj];omega
noncomputable def zwt(K:PySem.W.Frag):V->Option Int->Option Int->Hp->VK->Prop:=fun x lo hi H Q=>∃a xs,x=.ref a/\SqT K H a xs ∧
 ¬ (HT.sIx xs.length 0 lo=0/\HT.sIx xs.length xs.length hi=xs.length)/\∀p,H p=none->Q (.ref p) (upd H p (.tup (zmz xs lo hi)))
def zpj:SlR X (zwt X.K):=by
 intro pins s σ H x v vl vu lo hi sl Q I rx hs pl pu h;obtain ⟨a,xs,rfl,hx,hw,q⟩:=h;cases rx;obtain ⟨its,r,ht,hz⟩:=I.tuple hx
 have hlen:its.toArray.size=xs.length:=by rw [yaf];exact r.length.symm
 refine ⟨"tuple",_,yaW.lookup,ht.typeIs,?_⟩;refine HT.zcQ ht hs pl pu (by rw [hlen];exact hw) ?_ (by rw [hlen];exact hz);rw [hlen];refine ⟨.ref s.heap.objs.size,_,I.laid (t':=s.toks) (o:=.tup (zmz xs lo hi)) (fun b ob q=>yad _ q) (yah _) ?_,rfl,q _ (I.hok.fresh (yah _))⟩;exact ⟨yas (zdF xs lo hi) hz,_,(r.drop (HT.sIx xs.length 0 lo)).take (HT.sIx xs.length xs.length hi-HT.sIx xs.length 0 lo),zkh.new _ _⟩
noncomputable def zsE(K:PySem.W.Frag):R2:=fun x y H Q=>∃a b xs ys,x=.ref a/\y=.ref b/\SqT K H a xs/\SqT K H b ys/\xs≠[]/\xs.length+ys.length<=sizeLine ∧
 (ys=[]->Q (.ref a) H)/\(ys≠[]->∀p,H p=none->Q (.ref p) (upd H p (.tup (xs++ys))))
def Vals.nil_iff(r:Vals xs us):us=[]↔xs=[]:=by
 cases r with
 | nil=>simp
 | cons _ _=>simp
def znM:OpR X (binaryOp .Add) (zsE X.K):=by
 intro pins s σ H x y v u Q I rx ry h;obtain ⟨a,b,xs,ys,rfl,rfl,ha,hb,hx,hz,q1,q2⟩:=h;cases rx;cases ry;obtain ⟨its,r1,p1,_⟩:=I.tuple ha;obtain ⟨its2,r2,p2,_⟩:=I.tuple hb;refine HT.zor p1 p2 (fun z=>hx (r1.nil_iff.mp z)) (fun z=>⟨.ref a,H,I,rfl,q1 (r2.nil_iff.mp z)⟩) (fun z=>?_) (by rw [<-r1.length,<-r2.length];exact hz);refine ⟨.ref s.heap.objs.size,_,I.laid (t':=s.toks) (o:=.tup (xs++ys)) (fun b ob q=>yad _ q) (yah _) ?_,rfl,q2 (fun w=>z (r2.nil_iff.mpr w)) _ (I.hok.fresh (yah _))⟩;exact ⟨by rw [yau];exact hz,_,r1.append r2,zkh.new _ _⟩
end
noncomputable def ixN(n:Nat)(i:Int):Option Nat:=if 0<=i then (if i<n then some i.toNat else none) else if -(n:Int)<=i then some (i+n).toNat else none
def atI{α:Type}(xs:List α)(i:Int):Option α:=(ixN xs.length i).bind fun j=>xs[j]?
theorem zjr(h:ixN n i=some j):seqIndex? i n=some j/\j<n/\-(n:Int)<=i/\i<n:=by
 unfold ixN at h
 by_cases h0:0<=i
 ·rw [if_pos h0] at h
  by_cases h1:i<n
  ·rw [if_pos h1] at h;have e:i.toNat=j:=Option.some.inj h;exact ⟨by rw [seqIndex_of h0 h1,e],by omega,by omega,h1⟩
  ·rw [if_neg h1] at h;cases h
 ·rw [if_neg h0] at h
  by_cases h1:-(n:Int)<=i
  ·rw [if_pos h1] at h;have e:(i+n).toNat=j:=Option.some.inj h;exact ⟨by rw [seqIndex_neg (by omega) h1,e],by omega,h1,by omega⟩
  ·rw [if_neg h1] at h;cases h
def zj7{α:Type}{xs:List α}{v:α}(h:atI xs i=some v):∃j,seqIndex? i xs.length=some j/\xs[j]?=some v/\j<xs.length/\-(xs.length:Int)<=i/\i<xs.length:=by
 unfold atI at h
 cases e:ixN xs.length i with
 | none=>rw [e] at h;cases h
 | some j =>
  rw [e] at h;obtain ⟨h1,h2,h3,h4⟩:=zjr e;exact ⟨j,h1,h,h2,h3,h4⟩
noncomputable def zeR(b:Expr):Prop:=∀o i,subscripted b false o i=operate [o,i] (getItem o i)
noncomputable def IxR(X:Cx)(r:R2):Prop :=
 ∀(value slice:Expr) (pins:Z3) (s:Shared) (σ:St) (H:Hp) (x y:V) (v u:Value) (Q:VK),Inv X pins σ H s->zaI x v->zaI y u->r x y H Q →
  subscripted slice false v u=operate [v,u] (getItem v u)->wpAny (model X.prog X.w) X.A (subscriptTail value slice v u) (EP X pins σ Q) X.xe s
noncomputable def MtR(X:Cx)(id:String)(r:V->List V->Hp->VK->Prop):Prop :=
 ∀(pins:Z3) (s:Shared) (σ:St) (H:Hp) (x:V) (xs:List V) (v:Value) (us:List Value) (Q:VK),Inv X pins σ H s->zaI x v->Vals xs us->r x xs H Q →
  wpAny (model X.prog X.w) X.A (call (.builtin id) (v::us)) (EP X pins σ Q) X.xe s
section
variable{X:Cx}{a b:Expr}{ta tb:TE}{pos:Pos}
def zpY(hr:IxR X r)(ha:PE X a ta)(hb:PE X b tb)(hs:zeR b):PE X (.Subscript a b pos) (tOp r ta tb):=by
 intro pins s σ H Q I h;exact Subscript_ (ztx ha hb I h fun v u s2 x y H2 I2 rx ry q=>hr a b pins s2 σ H2 x y v u Q I2 rx ry q (hs _ _))
noncomputable def zwx(K:PySem.W.Frag):R2:=fun x y H Q=>∃p xs i v,x=.ref p/\y=.int i/\SqL K H p xs/\atI xs i=some v/\Q v H
noncomputable def zww(K:PySem.W.Frag):R2:=fun x y H Q=>∃p xs i v,x=.ref p/\y=.int i/\SqT K H p xs/\atI xs i=some v/\Q v H
theorem zjq:IxR X (zwx X.K):=by
 intro value slice pins s σ H x y v u Q I rx ry h hs;obtain ⟨p,xs,i,z,rfl,rfl,hq,he,q⟩:=h;cases rx;obtain ⟨t,rfl⟩:=ry;obtain ⟨its,r,pl,hz⟩:=I.list hq;obtain ⟨j,h1,h2,h3,h4,h5⟩:=zj7 he;obtain ⟨w,ew,rw'⟩:=r.get h2;have hl:=r.length;have hn:=zfk;have fin:EP X pins σ Q w s:=⟨z,H,I,rw',q⟩
 by_cases h0:0<=i
 ·have hj:i.toNat=j:=by
   rw [seqIndex_of h0 h5] at h1;exact Option.some.inj h1
  exact item_listR pl.isList h0 (by omega) (by rw [hj];simpa using ew) fin hs
 ·have hj:(i+(its.toArray.size:Int)).toNat=j:=by
   rw [seqIndex_neg (by omega) h4] at h1;rw [yaf,<-hl];exact Option.some.inj h1
  exact ycz (x:=w) pl.isList.typeIs slot_list_getitem.lookup
   (wpAny_getItem_list_neg (Q:=fun r s'=>r=w/\EP X pins σ Q r s') pl.isList (by omega) (by rw [yaf]<;>omega) (by omega) (by rw [hj];simpa using ew) ⟨rfl,fin⟩) hs
theorem zqF:IxR X (zww X.K):=by
 intro value slice pins s σ H x y v u Q I rx ry h hs;obtain ⟨p,xs,i,z,rfl,rfl,hq,he,q⟩:=h;cases rx;obtain ⟨t,rfl⟩:=ry;obtain ⟨its,r,pl,hz⟩:=I.tuple hq;obtain ⟨j,h1,h2,h3,h4,h5⟩:=zj7 he;obtain ⟨w,ew,rw'⟩:=r.get h2;have hl:=r.length;have hn:=zfk;have fin:EP X pins σ Q w s:=⟨z,H,I,rw',q⟩
 exact ycz (x:=w) pl.typeIs slot_tuple_getitem.lookup
  (getItem_tuple (j:=j) (Q:=fun r s'=>r=w/\EP X pins σ Q r s') pl (by omega) (by omega) (by rw [yaf,<-hl];exact h1) (by simpa using ew) ⟨rfl,fin⟩) hs
def zhL(its:List Value)(n j:Nat)(u:Value):Obj.mapSeq (·.setIfInBounds j u) { cls:=.type "list",data:=.seq its.toArray n }={ cls:=.type "list",data:=.seq (its.set j u).toArray n }:=by
 simp [Obj.mapSeq]
theorem Inv.lst{pins:Z3}{σ:St}{H:Hp}{s:Shared}{p:Addr}{xs:List V}(I:Inv X pins σ H s)(h:H p=some (.lst xs)) :
  ∃(its:List Value) (n:Nat),Vals xs its/\s.heap.get? p=some { cls:=.type "list",data:=.seq its.toArray n }/\xs.length<=sizeLine:=by
 obtain ⟨z,its,n,r,e⟩:=I.hok p _ h;exact ⟨its,n,r,e,z⟩
def Inv.lstUpd{pins:Z3}{σ:St}{H:Hp}{s:Shared}{p:Addr}{xs ys:List V}{its its':List Value}{n n':Nat}{f:Obj->Obj}(I:Inv X pins σ H s)(h:H p=some (.lst xs))
  (ho:s.heap.get? p=some { cls:=.type "list",data:=.seq its.toArray n }) (hf:f { cls:=.type "list",data:=.seq its.toArray n }={ cls:=.type "list",data:=.seq its'.toArray n' }) (r:Vals ys its') (hz:ys.length<=sizeLine) (t:Nat) :
  Inv X pins σ (upd H p (.lst ys)) { s with heap:=s.heap.update p f,toks:=t }:=by
 have e:(s.heap.update p f).get? p=some { cls:=.type "list",data:=.seq its'.toArray n' }:=by
  rw [yaY f ho (by rw [hf]<;>rfl),hf]
 refine I.write (x:=p) (e:=p) (by rw [h];trivial) (.inl rfl) (fun b u hb q=>(ybZ _ _ (Ne.symm hb)).trans q) ⟨_,e⟩ ?_;exact ⟨hz,its',n',r,e⟩
noncomputable def zsD:V->V->V->Hp->(Hp->Prop)->Prop:=fun o i v H Q=>∃p xs k j,o=.ref p/\i=.int k/\H p=some (.lst xs)/\ixN xs.length k=some j/\Q (upd H p (.lst (xs.set j v)))
theorem zkt:zr3 X zsD:=by
 intro pins s σ H o i v ov iv u Q I ro ri rv h;obtain ⟨p,xs,k,j,rfl,rfl,hp,hj,q⟩:=h;cases ro;obtain ⟨t,rfl⟩:=ri;obtain ⟨its,n,r,ho,hz⟩:=I.lst hp;obtain ⟨h1,h2,h3,h4⟩:=zjr hj;have hl:=r.length;have hn:=zfk
 have I':Inv X pins σ (upd H p (.lst (xs.set j v))) { s with heap:=s.heap.update p (Obj.mapSeq (·.setIfInBounds j u)) } :=
  I.lstUpd hp ho (zhL its n j u) (r.set rv j) (by rw [yaD];exact hz) s.toks
 by_cases h0:0<=k
 ·have hk:k.toNat=j:=by
   rw [seqIndex_of h0 h4] at h1;exact Option.some.inj h1
  exact PySem.W.ki_setAt ho h0 (by omega) (by rw [yaf,<-hl];exact h4) (by rw [hk];exact ⟨_,I',q⟩)
 ·have hk:(k+(its.toArray.size:Int)).toNat=j:=by
   rw [seqIndex_neg (by omega) h3] at h1;rw [yaf,<-hl];exact Option.some.inj h1
  exact PySem.W.ki_setBack ho (by omega) (by rw [yaf,<-hl];exact h3) (by omega) (by rw [hk];exact ⟨_,I',q⟩)
theorem ze1(lo hi:Option Int)(n:Nat):(sliceBounds lo hi none n).1=((HT.sIx n 0 lo:Nat):Int)/\(sliceBounds lo hi none n).2.1=((HT.sIx n n hi:Nat):Int)/\(sliceBounds lo hi none n).2.2=1:=by
 refine ⟨?_,?_,rfl⟩
 ·cases lo with
  | none=>simp [sliceBounds,HT.sIx]
  | some i =>
   simp only [sliceBounds,HT.sIx,Option.getD_none,show (1:Int) > 0 by decide,ybY]
   by_cases h:i<0
   ·simp only [h,ybY]<;>omega
   ·simp only [h,ybs]<;>omega
 ·cases hi with
  | none=>simp [sliceBounds,HT.sIx]
  | some i =>
   simp only [sliceBounds,HT.sIx,Option.getD_none,show (1:Int) > 0 by decide,ybY]
   by_cases h:i<0
   ·simp only [h,ybY]<;>omega
   ·simp only [h,ybs]<;>omega
def zel(its:List Value)(lo hi:Option Int):slicePick its.toArray lo hi none=((its.drop (HT.sIx its.length 0 lo)).take (HT.sIx its.length its.length hi-HT.sIx its.length 0 lo)).toArray:=by
 obtain ⟨h1,h2,h3⟩:=ze1 lo hi its.toArray.size;unfold slicePick;rw [h1,h2,h3]
 simp only [sliceRange_one,pick_run,yaf]<;>rfl
noncomputable def zwu(K:PySem.W.Frag):V->Option Int->Option Int->Hp->VK->Prop:=fun x lo hi H Q=>∃a xs,x=.ref a/\SqL K H a xs/\∀p,H p=none->Q (.ref p) (upd H p (.lst (zmz xs lo hi)))
theorem zna:SlR X (zwu X.K):=by
 intro pins s σ H x v vl vu lo hi sl Q I rx hs pl pu h;obtain ⟨a,xs,rfl,hx,q⟩:=h;cases rx;obtain ⟨its,r,ht,hz⟩:=I.list hx;have hlen:=r.length;refine ⟨"list",_,slot_list_getitem.lookup,ht.isList.typeIs,?_⟩;refine wpAny_getItem_list_slice ht.isList hs pl pu .none (by simp) ?_ (by rw [yaf]<;>omega);rw [zel,<-hlen];refine ⟨.ref s.heap.objs.size,_,I.laid (t':=s.toks) (o:=.lst (zmz xs lo hi)) (fun b ob q=>yad _ q) (yah _) ?_,rfl,q _ (I.hok.fresh (yah _))⟩;exact ⟨yas (zdF xs lo hi) hz,_,0,(r.drop (HT.sIx xs.length 0 lo)).take (HT.sIx xs.length xs.length hi-HT.sIx xs.length 0 lo),yag _ rfl⟩
theorem zbU:zbg X (.builtin "len") (fun xs H Q=>∃p ys,xs=[.ref p]/\(SqL X.K H p ys\/SqT X.K H p ys)/\Q (.int ys.length) H):=by
 intro pins s σ H xs us Q I r h;obtain ⟨p,ys,rfl,hq,q⟩:=h;obtain ⟨u,rfl,rx⟩:=zce r;cases rx;have hn:=zfk
 rcases hq with hq | hq
 ·obtain ⟨its,r',pl,hz⟩:=I.list hq;have hlen:=r'.length;exact Calls.call_len_list pl.isList (by simp only [yaf]<;>omega) ⟨.int ys.length,H,I.tok _,⟨s.toks+1,by rw [yaf,hlen]⟩,q⟩
 ·obtain ⟨its,r',pl,hz⟩:=I.tuple hq;have hlen:=r'.length;exact len_tuple pl (by simp only [yaf]<;>omega) ⟨.int ys.length,H,I.tok _,⟨s.toks+1,by rw [yaf,hlen]⟩,q⟩
theorem zfG:zbg X (.builtin "len") (fun xs H Q=>∃z,xs=[.str z]/\z.length<=sizeLine/\Q (.int z.length) H):=by
 intro pins s σ H xs us Q I r h;obtain ⟨z,rfl,hz,q⟩:=h;obtain ⟨u,rfl,t,rfl⟩:=zce r;have hn:=zfk;exact len_str (by omega) ⟨.int z.length,H,I.tok _,⟨_,rfl⟩,q⟩
def zc8:zbg X (.type "list") (fun xs H Q=>∃p ys,xs=[.ref p]/\(SqL X.K H p ys\/SqT X.K H p ys)/\∀l,H l=none->Q (.ref l) (upd H l (.lst ys))):=by
 intro pins s σ H xs us Q I r h;obtain ⟨p,ys,rfl,hq,q⟩:=h;obtain ⟨u,rfl,rx⟩:=zce r;cases rx
 have fin:∀(its:List Value),Vals ys its->ys.length<=sizeLine->∀(h':Heap) (c':Nat),(∀b o',s.heap.get? b=some o'->h'.get? b=some o') →
   h'.get? s.heap.objs.size=some { cls:=.type "list",dict:=none,data:=.seq its.toArray c',slots:=#[] }->EP X pins σ Q (.ref s.heap.objs.size) { s with heap:=h' }:=fun its r' hz h' c' kp e =>
  ⟨.ref s.heap.objs.size,_,I.laid (t':=s.toks) kp (yah _) (show zaX X.prog X.w _ h' _ (.lst ys) from ⟨hz,its,c',r',e⟩),rfl,q _ (I.hok.fresh (yah _))⟩
 rcases hq with hq | hq
 ·obtain ⟨its,r',pl,hz⟩:=I.list hq;have hlen:=r'.length;obtain ⟨o,ho,hc,n,hd⟩:=pl.isList;exact call_list_seq p (.inl rfl) ho hc hd (fun h' c' kp e=>fin its r' hz h' c' kp e) (by simp only [yaf]<;>omega)
 ·obtain ⟨its,r',pl,hz⟩:=I.tuple hq;have hlen:=r'.length;obtain ⟨o,ho,hc,n,hd⟩:=pl;exact call_list_seq p (.inr rfl) ho hc hd (fun h' c' kp e=>fin its r' hz h' c' kp e) (by simp only [yaf]<;>omega)
def zcD:zbg X (.type "tuple") (fun xs H Q=>∃p ys,xs=[.ref p]/\((SqL X.K H p ys/\∀l,H l=none->Q (.ref l) (upd H l (.tup ys)))\/(SqT X.K H p ys/\Q (.ref p) H))):=by
 intro pins s σ H xs us Q I r h;obtain ⟨p,ys,rfl,h⟩:=h;obtain ⟨u,rfl,rx⟩:=zce r;cases rx
 rcases h with ⟨hq,q⟩ | ⟨hq,q⟩
 ·obtain ⟨its,r',pl,hz⟩:=I.list hq;have hlen:=r'.length;refine call_tuple_list pl.isList (fun h' kp=>?_) (by simp only [yaf]<;>omega);have I1:Inv X pins σ H { s with heap:=h' }:=I.kept (t':=s.toks) kp
  have I2:Inv X pins σ (upd H h'.objs.size (.tup ys)) { s with heap:=h'.push { cls:=.type "tuple",data:=.seq its.toArray } } :=
   I1.laid (t':=s.toks) (fun b o e=>yad _ e) (yah _) (show zaX X.prog X.w _ _ _ (.tup ys) from ⟨hz,its,r',zkh.new _ _⟩)
  exact ⟨.ref h'.objs.size,_,I2,rfl,q _ (I1.hok.fresh (yah _))⟩
 ·obtain ⟨its,r',pl,hz⟩:=I.tuple hq;exact call_tuple_same pl ⟨.ref p,H,I,rfl,q⟩
noncomputable def tyV(K:PySem.W.Frag)(T:String)(x:V)(H:Hp):Prop:=match x with
 | .str _=>T = "str"
 | .int _=>T = "int"
 | .ref p=>(T = "list" /\ ∃xs,SqL K H p xs)\/(T = "tuple" /\ ∃o,K.lookup p=some o/\o.cls=.type "tuple" /\ o.dict=none) ∨
   (T = "dict" /\ ((∃kvs,H p=some (.dK kvs))\/∃kvs,H p=some (.dT kvs)))\/(T = "set" /\ ∃S n,H p=some (.set S n))
 | _=>False
def zoU(I:Inv X pins σ H s)(r:zaI x v)(ty:tyV X.K T x H) :
  s.TypeIs v T/\∀a,v=.ref a->∃ob,s.heap.get? a=some ob/\ob.dict=none:=by
 cases x with
 | str z =>
  obtain ⟨t,rfl⟩:=r;cases (show T = "str" from ty);exact ⟨typeIs_str s z t,fun _ e=>nomatch e⟩
 | int i =>
  obtain ⟨t,rfl⟩:=r;cases (show T = "int" from ty);exact ⟨ycU s i t,fun _ e=>nomatch e⟩
 | ref p =>
  cases r
  rcases ty with ⟨rfl,xs,hq⟩ | ⟨rfl,o,hk,hc,hd⟩ | ⟨rfl,hk⟩ | ⟨rfl,S,n,hk⟩
  ·obtain ⟨its,_,pl,_⟩:=I.list hq;refine ⟨pl.isList.typeIs,fun a e=>?_⟩;cases e;obtain ⟨o,n,e,c,hd,_⟩:=pl;exact ⟨o,e,hd⟩
  ·refine ⟨⟨o,I.kIn p o hk,hc⟩,fun a e=>?_⟩;cases e;exact ⟨o,I.kIn _ o hk,hd⟩
  ·have z:∃o,s.heap.get? p=some o/\o.ExactDict:=by
    rcases hk with ⟨kvs,hk⟩ | ⟨kvs,hk⟩
    ·obtain ⟨_,_,_,_,o,_,_,e,ex,_⟩:=I.hok p _ hk;exact ⟨o,e,ex⟩
    ·obtain ⟨_,_,_,_,o,_,_,e,ex,_⟩:=I.hok p _ hk;exact ⟨o,e,ex⟩
   obtain ⟨o,e,ex⟩:=z;refine ⟨⟨o,e,ex.1⟩,fun a e2=>?_⟩;cases e2;exact ⟨o,e,ex.2.1⟩
  ·obtain ⟨o,_,_,_,e,ex,_⟩:=I.hok p _ hk;refine ⟨⟨o,e,ex.1⟩,fun a e2=>?_⟩;cases e2;exact ⟨o,e,ex.2.1⟩
 | _=>exact False.elim ty
noncomputable def tBM(K:PySem.W.Frag)(T:String)(r:V->List V->Hp->VK->Prop)(to:TE)(t:TA):TE:=fun σ H Q=>to σ H fun x H1=>tyV K T x H1/\t σ H1 fun xs H2=>r x xs H2 Q
variable{o e:Expr}{es:List Expr}{to:TE}{t:TA}{name:Str}{apos cpos:Pos}{T id:String}{r:V->List V->Hp->VK->Prop}
def zhH(pa:PlainAttrs T)(slot:Slot T name id)(hty:typeOf (.builtin id)=pure (.type "method_descriptor"))(hm:MtR X id r)(ho:PE X o to)(ha:PA X (e::es) t)
  (hbase:attributeBase o name X.env (eval o X.env)=eval o X.env:=by rfl)
  (hfew:((backTo cpos (starEach (e::es) X.env)).all (fun x=>!x.1)&&(backToKw cpos (keywordEach [] X.env)).all (fun x=>x.1.isSome)
   && decide ((e::es).length+([]:List Keyword).length+(if ([]:List Keyword).isEmpty then 0 else 1)<30))=true:=by rfl)
  (hline:(apos.endLine == cpos.line)=true:=by rfl) (hs:starEach (e::es) X.env=(false,eval e X.env)::starEach es X.env:=by rfl) (hplain:(backTo cpos (starEach es X.env)).any (·.1)=false:=by rfl) :
  PE X (.Call (.Attribute o name apos) (e::es) [] cpos) (tBM X.K T r to t):=by
 intro pins s σ H Q I h;refine wpAny_Call_method_late hbase hfew hline rfl (thn (ho pins s σ H _ I h) fun v s1 ⟨x,H1,I1,r1,ty,q1⟩=>?_);obtain ⟨h1,h2⟩:=zoU I1 r1 ty;refine ⟨T,id,pa,slot,hty,h1,h2,?_⟩;have hA:=ha cpos pins s1 σ H1 _ I1 q1;rw [hs] at hA ⊢;refine ycA (by show (false||(backTo cpos (starEach es X.env)).any (·.1))=false;rw [hplain]<;>rfl) (ycc ?_);exact thn hA fun us s2 ⟨vs,H2,I2,r2,q2⟩=>hm pins s2 σ H2 x vs v us Q I2 r1 r2 q2
end
noncomputable def MtM(X:Cx)(id:String)(r:V->List V->Hp->VK->Prop):Prop :=
 ∀(pins:Z3) (s:Shared) (σ:St) (H:Hp) (x:V) (xs:List V) (v:Value) (us:List Value) (Q:VK),Inv X pins σ H s->zaI x v->Vals xs us->r x xs H Q →
  wpAny (model X.prog X.w) X.A (call (.builtin id) (v::us)) (EP X pins σ Q) X.xe s
theorem Vals.one:∀{x:V} {us:List Value},Vals [x] us->∃u,us=[u]/\zaI x u
 | _,_,.cons r .nil=>⟨_,rfl,r⟩
theorem Vals.eraseIdx:∀{xs:List V} {us:List Value} (i:Nat),Vals xs us->Vals (xs.eraseIdx i) (us.eraseIdx i)
 | _,_,_,.nil=>.nil
 | _,_,0,.cons _ t=>t
 | _,_,i+1,.cons r t=>.cons r (Vals.eraseIdx i t)
theorem Vals.reverse{xs:List V}{us:List Value}(h:Vals xs us):Vals xs.reverse us.reverse:=by
 induction h with
 | nil=>exact .nil
 | cons r t ih=>rw [ycC,ycC];exact Vals.append ih (.cons r .nil)
theorem Vals.rep(h:Vals xs us):∀k:Nat,Vals (List.replicate k xs).flatten (List.replicate k us).flatten
 | 0=>.nil
 | k+1=>by
  rw [ybn,ybn,ybR,ybR];exact Vals.append h (Vals.rep h k)
theorem zfl{α:Type}:∀(l:List α) (i:Nat),(l.eraseIdx i).length<=l.length
 | [],_=>yah _
 | _::_,0=>yb3 _
 | _::r,i+1=>Nat.succ_le_succ (zfl r i)
theorem zdy(its:List Value):∀(k:Nat) (acc:List Value),
  List.foldl (fun x1 x2=>x1++x2) acc.toArray (List.replicate k its.toArray)=(acc++(List.replicate k its).flatten).toArray
 | 0,acc=>by simp
 | k+1,acc=>by
  have e:acc.toArray++its.toArray=(acc++its).toArray:=by simp
  have e2:(acc++its)++(List.replicate k its).flatten=acc++(List.replicate (k+1) its).flatten:=by
   rw [ybn,ybR,ydf]
  rw [<-e2,<-zdy its k (acc++its),<-e,ybn,List.foldl_cons]
section
variable{X:Cx}{pins:Z3}{σ:St}{H:Hp}{s:Shared}{l b:Addr}{xs ys zs:List V}
def Inv.lset{its its':List Value}{n:Nat}{f:Array Value->Array Value}{t':Nat}(I:Inv X pins σ H s)(hH:H l=some (.lst xs))
  (e:s.heap.get? l=some { cls:=.type "list",data:=.seq its.toArray n }) (hf:f its.toArray=its'.toArray) (hv:Vals ys its') (hz:ys.length<=sizeLine) :
  Inv X pins σ (upd H l (.lst ys)) { s with heap:=s.heap.update l (Obj.mapSeq f),toks:=t' }:=by
 have q:=PySem.IsL.update e f;rw [hf] at q;refine I.write (x:=l) (e:=l) (by rw [hH];exact trivial) (.inl rfl) (fun b' u hb hu=>(ybZ s.heap (Obj.mapSeq f) (Ne.symm hb)).trans hu) ⟨_,q⟩ ?_;exact ⟨hz,its',_,hv,q⟩
def Inv.lnew(I:Inv X pins σ H s)(hv:Vals ys its)(hz:ys.length<=sizeLine) :
  Inv X pins σ (upd H s.heap.objs.size (.lst ys)) { s with heap:=s.heap.push { cls:=.type "list",data:=.seq its.toArray },toks:=t' } :=
 I.laid (fun _ _ q=>yad _ q) (yah _) ⟨hz,its,0,hv,yag _ rfl⟩
theorem Inv.fresh(I:Inv X pins σ H s):H s.heap.objs.size=none:=I.hok.fresh (yah _)
def Inv.lstM(I:Inv X pins σ H s)(hH:H l=some (.lst xs)):xs.length<=sizeLine/\∃(its:List Value) (n:Nat),Vals xs its/\xs.length=its.length/\s.heap.get? l=some { cls:=.type "list",data:=.seq its.toArray n }:=by
 obtain ⟨z,its,n,r,e⟩:=I.hok l _ hH;exact ⟨z,its,n,r,r.length,e⟩
theorem zex(h:n<=sizeLine):Builtin.List.listTooLong n=false:=by
 unfold Builtin.List.listTooLong;exact ya4 (by omega)
end
section
variable{X:Cx}
noncomputable def znx:V->List V->Hp->VK->Prop:=fun x vs H Q=>∃l xs y,x=.ref l/\vs=[y]/\H l=some (.lst xs)/\xs.length<sizeLine/\Q .non (upd H l (.lst (xs++[y])))
theorem zfg:MtM X "list.append" znx:=by
 intro pins s σ H x vs v us Q I rx rv h;obtain ⟨l,xs,y,rfl,rfl,hH,hz,q⟩:=h;cases rx;obtain ⟨u,rfl,ru⟩:=rv.one;obtain ⟨z,its,n,r,hl,e⟩:=I.lstM hH;refine ybW F.slot_list_append ⟨_,e,rfl⟩ F.entry_list_append (F.args_list_append_2 _ _) (PySem.list_append l its.toArray n u (by rw [yaf];omega)) ⟨e,?_⟩;refine ⟨.non,_,I.lset (its':=its++[u]) hH e (by simp) (r.append (.cons ru .nil)) ?_,rfl,q⟩;rw [yau,List.length_singleton];omega
noncomputable def znw:V->List V->Hp->VK->Prop:=fun x vs H Q=>∃l b xs zs,x=.ref l/\vs=[.ref b]/\H l=some (.lst xs)/\H b=some (.lst zs)/\xs.length+zs.length<=sizeLine/\Q .non (upd H l (.lst (xs++zs)))
theorem zi9:MtM X "list.extend" znw:=by
 intro pins s σ H x vs v us Q I rx rv h;obtain ⟨l,b,xs,zs,rfl,rfl,hH,hB,hz,q⟩:=h;cases rx;obtain ⟨u,rfl,ru⟩:=rv.one;cases ru;obtain ⟨z,its,n,r,hl,e⟩:=I.lstM hH;obtain ⟨z2,its2,n2,r2,hl2,e2⟩:=I.lstM hB
 have hsz:its.toArray.size+its2.toArray.size<=sizeLine:=by rw [yaf,yaf];omega
 have hlong:¬ (!its.toArray.isEmpty&&Builtin.List.listTooLong (its.toArray.size+its2.toArray.size))=true:=by
  rw [zex hsz,Bool.and_false];exact yaG
 refine ybW F.slot_list_extend ⟨_,e,rfl⟩ F.entry_list_extend (F.args_list_extend_2 _ _)
  (AutoSeq1.list_extend_list_list_0 l its.toArray n b its2.toArray n2 hlong (by rw [yaf];omega) (by omega)) ⟨e,e2,?_⟩
 refine ⟨.non,_,I.lset (its':=its++its2) hH e (by simp) (r.append r2) ?_,rfl,q⟩;rw [yau];omega
noncomputable def zpH:V->List V->Hp->VK->Prop:=fun x vs H Q=>∃l xs i k y,x=.ref l/\vs=[.int i]/\H l=some (.lst xs)/\-(2 ^ 63)<=i/\i<2 ^ 63/\seqIndex? i xs.length=some k/\xs[k]?=some y/\Q y (upd H l (.lst (xs.eraseIdx k)))
theorem zk7:MtM X "list.pop" zpH:=by
 intro pins s σ H x vs v us Q I rx rv h;obtain ⟨l,xs,i,k,y,rfl,rfl,hH,h1,h2,hk,hy,q⟩:=h;cases rx;obtain ⟨u,rfl,ru⟩:=rv.one;obtain ⟨t,rfl⟩:=ru;obtain ⟨z,its,n,r,hl,e⟩:=I.lstM hH;obtain ⟨w,hw,rw'⟩:=r.get hy
 refine ybW F.slot_list_pop ⟨_,e,rfl⟩ F.entry_list_pop (F.args_list_pop_2 _ _)
  (MeetsSeq.list_pop_at l its.toArray n i t k w (fitsIndex_both h1 h2) (by rw [yaf,<-hl];exact hk) (by rw [<-yaZ];exact hw) (by rw [yaf];omega)) ⟨e,?_⟩
 refine ⟨y,_,I.lset (its':=its.eraseIdx k) hH e ?_ (r.eraseIdx k) ?_,rw',q⟩
 ·show its.toArray.eraseIdxIfInBounds k=(its.eraseIdx k).toArray;rw [List.eraseIdxIfInBounds_toArray]
 ·have:=zfl xs k;omega
noncomputable def zwy:R2:=fun x y H Q=>∃l b xs zs,x=.ref l/\y=.ref b/\H l=some (.lst xs)/\H b=some (.lst zs)/\xs.length+zs.length<=sizeLine/\∀p,H p=none->Q (.ref p) (upd H p (.lst (xs++zs)))
def zp8:OpR X (binaryOp .Add) zwy:=by
 intro pins s σ H x y v u Q I rx ry h;obtain ⟨l,b,xs,zs,rfl,rfl,hH,hB,hz,q⟩:=h;cases rx;cases ry;obtain ⟨z,its,n,r,hl,e⟩:=I.lstM hH;obtain ⟨z2,its2,n2,r2,hl2,e2⟩:=I.lstM hB;refine PySem.P.add_list e e2 ?_ (by rw [yaf,yaf];omega)
 have ea:its.toArray++its2.toArray=(its++its2).toArray:=by simp
 rw [ea];exact ⟨.ref _,_,I.lnew (t':=s.toks) (r.append r2) (by rw [yau];omega),rfl,q _ I.fresh⟩
noncomputable def zwv:R2:=fun x y H Q=>∃l k xs,x=.ref l/\y=.int k/\H l=some (.lst xs)/\-(2 ^ 63)<=k/\k<2 ^ 63/\xs.length*k.toNat<=sizeLine ∧
 ∀p,H p=none->Q (.ref p) (upd H p (.lst (List.replicate k.toNat xs).flatten))
def zgg{α:Type}(xs:List α)(k:Nat):(List.replicate k xs).flatten.length=k*xs.length:=by
 induction k with
 | zero=>simp
 | succ k ih=>rw [ybn,ybR,yau,ih,Nat.succ_mul,Nat.add_comm]
theorem zmf:OpR X (binaryOp .Mult) zwv:=by
 intro pins s σ H x y v u Q I rx ry h;obtain ⟨l,k,xs,rfl,rfl,hH,h1,h2,hz,q⟩:=h;cases rx;obtain ⟨t,rfl⟩:=ry;obtain ⟨z,its,n,r,hl,e⟩:=I.lstM hH
 have hlen:its.toArray.size*k.toNat<=sizeLine:=by rw [yaf,<-hl];exact hz
 have hcap:¬ its.toArray.size*k.toNat > (2 ^ 63-1) / 8:=by
  have:(sizeLine:Nat)<=(2 ^ 63-1) / 8:=by decide
  omega
 have hfit:¬ (!Builtin.List.listFitsIndex k)=true:=by
  rw [fitsIndex_both h1 h2];exact yaG
 have hlong:¬ Builtin.List.listTooLong (its.toArray.size*k.toNat)=true:=by
  rw [zex hlen];exact yaG
 have hnew:List.foldl (fun x1 x2=>x1++x2) #[] (List.replicate (if its.toArray.isEmpty=true then 0 else k.toNat) its.toArray)=(List.replicate k.toNat its).flatten.toArray:=by
  have f0:∀m:Nat,List.foldl (fun x1 x2=>x1++x2) #[] (List.replicate m its.toArray)=(List.replicate m its).flatten.toArray:=fun m=>by
   have:=zdy its m [];rwa [List.nil_append] at this
  rw [f0]
  cases its with
  | nil=>simp
  | cons a r'=>rw [if_neg (by simp)]
 refine ycg (T:="list") (U:="int") (by decide) ⟨_,e,rfl⟩ (fun s'=>ycU s' k t) noFill_list_mul F.fills_int_mul yb4 repeat_list F.slot_int_index.lookup
  (ybW yb4 (ycU s k t) F.entry_int_rmul (ydg _ _) (int___rmul___int_list k t l its.toArray n)
   ⟨e,rfl,⟨_,e,rfl⟩,ybW F.slot_list_mul ⟨_,e,rfl⟩ F.entry_list_mul (F.args_list_mul_2 _ _) (AutoListH.list___mul___list_int_3 l its.toArray n k t hfit hcap hlong) ⟨e,?_⟩⟩)
 rw [hnew];exact ⟨.ref _,_,I.lnew (t':=s.toks) (r.rep k.toNat) (by rw [zgg,Nat.mul_comm];exact hz),rfl,q _ I.fresh⟩
end
end L2
namespace Att
open PySem PySem.W PySem.Calls PyProof.Rows
def zdw:∀(ns:List Int) (vs:List Value),WellAll P h vs (ns.map WData.int)->IntsAre vs ns:=by
 intro ns
 induction ns with
 | nil =>
  intro vs w;rw [List.map_nil] at w;cases w;exact .nil
 | cons n ns ih =>
  intro vs w;rw [yaR] at w
  cases w with
  | cons a b =>
   cases a;exact .cons _ _ (ih _ b)
theorem ziE{l:OpenLaw}(hn:l.most=some n){P:Params}{h:Heap}
  (hpre:l.row.toRowW.claim.pre args=true) (hwl:WellAll P h vals args) :
  ∃a vs ns,vals=[Value.ref a]/\args=[WData.list (ns.map WData.int)]/\h.get? a=some { cls:=.type "list",data:=.seq vs.toArray }/\IntsAre vs ns/\ns.length<=n:=by
 have hsh:WShape.hasAll [] args [.list .int]=true:=(pre_splitW hpre).1;have hc:l.pre.holds [] { args:=args }=true:=(pre_splitW hpre).2;obtain ⟨d,r,rfl,h1,h2⟩:=hasAllW_cons hsh;obtain rfl:=hasAllW_nil h2;obtain ⟨xs,rfl,h3⟩:=hasW_list h1;obtain ⟨ns,rfl⟩:=items_int h3
 have hlen:ns.length<=n:=by
  unfold OpenLaw.pre at hc
  have h4:(WTm.not (.lt (.lit (.int (n:Int))) (.len (.arg 0)))).holds [] { args:=[.list (ns.map .int)] }=true:=by
   have h4:=(holds_andW hc).1;rwa [hn] at h4
  have h5:=condW_of h4 (w_not (w_lt w_lit (w_len_list (w_arg rfl))));rw [yao] at h5;refine Nat.le_of_not_lt fun q=>?_
  have q':(n:Int)<((ns.length:Nat):Int):=by omega
  first
   | (rw [ycE q'] at h5;exact absurd h5 (by decide))
   | (simp at h5;omega)
 cases hwl with
 | cons w1 w2 =>
  cases w2
  cases w1 with
  | list ho hall=>exact ⟨_,_,ns,rfl,rfl,ho,zdw ns _ hall,hlen⟩
def ziO(l:OpenLaw)(args:List WData):l.row.toRowW.claim.post args (.bool true) args=true :=
 postW_of (r:=l.row.toRowW) (X:=(true == true))
  (show WShape.has [] (.bool true) .bool=true by first | rfl | decide | simp [WShape.has,WShape.arms,WShape.armsAll])
  (show (WTm.eq .res (.lit (.bool true))).value [] { args:=args,res:=some (.bool true),after:=args }=some (.bool (true == true)) from w_eq_bool (w_res rfl) w_lit) rfl
def zgt{l:OpenLaw}{n:Nat}{q:Program}{loose:List Str}{XP:(Str->Option Value)->Heap->Prop}{YP:World->Heap->Prop}{d:DefRec}
  (hn:l.most=some n) (hdf:d.params.defaults=[])
  (call:∀(w:World) (s₀ s₁:Shared) (mg mb:Z6) (fa:Addr) (o:Obj) (pm cd doc:Value) (a:Addr) (vs:List Value) (ns:List Int),
   Ground q loose [] XP w s₀ mg mb s₁.heap->YP w s₁.heap →
   s₁.heap.get? fa=some o->o.data=.func (docDef d.name d.params d.body d.scope pm cd doc)->s₁.heap.CodeRec cd d.name->mg d.name=some (.ref fa) →
   s₁.heap.get? a=some { cls:=.type "list",data:=.seq vs.toArray }->IntsAre vs ns->ns.length<=n->s₁.gens=#[] →
   codeAny (model l.prog w) callerA (.call (.ref fa) ⟨[.ref a],[]⟩) (fun r s'=>r=.ok (.ret (.bool true))/\OldK s₁.heap s'.heap/\s'.os=s₁.os/\AllBare s'.gens) s₁) :
  WalkO q loose XP YP l.row.toRowW d [] (fun f vs=>PySem.call f vs):=by
 intro w s₀ s₁ mg mb G Y fa o pm cd doc dV kV ho hd hcd hD hmg hg args vals as hpre hlay hrd hwl hlo;obtain rfl:dV=.none:=Dflts.none hD hdf;obtain rfl:kV=.none:=Dflts.noKw hD;obtain ⟨a,vs,ns,rfl,rfl,hobj,hints,hlen⟩:=ziE hn hpre hwl;refine enter_call (ybB (call w s₀ s₁ mg mb fa o pm cd doc a vs ns G Y ho (fd_plain hd) hcd hmg hobj hints hlen hg) fun r s' hq=>?_);obtain ⟨rfl,h2,h3,h4⟩:=hq;exact ⟨.inl ⟨.bool true,.bool true,[],rfl,fun _=>rfl,.bool true,ziO l _,fun _=>⟨List.Pairwise.nil,fun _ hm=>(nomatch hm)⟩⟩,h2,h3,h4⟩
end Att
namespace L2
open PySem PySem.Spec PyProof.Rows
theorem zeT:∀{vs:List Value} {ns:List Int},IntsAre vs ns->Vals (ns.map V.int) vs
 | _,_,.nil=>.nil
 | _,_,.cons n t h=>.cons ⟨t,rfl⟩ (zeT h)
noncomputable def zaL(s:Stmt):Arguments:=match s with
 | .FunctionDef _ a _ _ _ _ _ _ _ _=>a
 | _=>{ posonlyargs:=[],args:=[],vararg:=none,kwonlyargs:=[],kw_defaults:=[],kwarg:=none,defaults:=[] }
noncomputable def zay(s:Stmt):List Stmt:=match s with
 | .FunctionDef _ _ b _ _ _ _ _ _ _=>b
 | _=>[]
noncomputable def zab(s:Stmt):Scope:=match s with
 | .FunctionDef _ _ _ _ _ _ sc _ _ _=>sc
 | _=>{ kind:=.function,names:=[],isGenerator:=false,isCoroutine:=false }
structure Fun(K:PySem.W.Frag)(x qual:Str)(st:Stmt)(f:Addr)(fd:FuncData):Prop where
 ex:∃(oc:Value) (od:Option Addr) (kV doc pm:Value) (an:Option Addr) (cdv ct:Value) (osl:Array (Option Value)),
  fd=PySem.W.fnOf x qual (zaL st) (zay st) (zab st) .none kV doc pm an cdv ct/\K.lookup f=some ⟨oc,od,.func fd,osl⟩/\PySem.W.codeIn K cdv qual=true
 kp:PySem.W.keepIn K (.ref f)=true
section
variable{P:Program}{w:World}{K:PySem.W.Frag}{mg:Z6}{base:Heap}
def Fun.binds{x qual:Str}{st:Stmt}{f:Addr}{fd:FuncData}{ps:List Str}(F:Fun K x qual st f fd)
  (h:∀(kV doc pm:Value) (an:Option Addr) (cdv ct:Value) (us:List Value),us.length=ps.length->bindArgs (PySem.W.fnOf x qual (zaL st) (zay st) (zab st) .none kV doc pm an cdv ct) ⟨us,[]⟩=pure (ps.zip us)):zb5 K fd ps []:=by
 obtain ⟨oc,od,kV,doc,pm,an,cdv,ct,osl,rfl,lk,hcd⟩:=F.ex;exact .all (h kV doc pm an cdv ct)
def zjD{x qual:Str}{st:Stmt}{f:Addr}{oc:Value}{od an:Option Addr}{osl:Array (Option Value)}{kV doc pm cdv ct:Value}(l:K.lookup f=some ⟨oc,od,.func (PySem.W.fnOf x qual (zaL st) (zay st) (zab st) .none kV doc pm an cdv ct),osl⟩)
  (c:PySem.W.codeIn K cdv qual=true) (k:PySem.W.keepIn K (.ref f)=true):Fun K x qual st f (PySem.W.fnOf x qual (zaL st) (zay st) (zab st) .none kV doc pm an cdv ct):=⟨⟨oc,od,kV,doc,pm,an,cdv,ct,osl,rfl,l,c⟩,k⟩
end
def zli{A B:Prop}(h:B):if false=true then A else B:=by
 rw [if_neg yaG];exact h
def zlh{A B:Prop}(h:A):if true=true then A else B:=by
 rw [if_pos rfl];exact h
def zed(h:∀y∈scope.names,y.2=.free->∃c,env.cells.lookup y.1=some c) :
  ∃cl,closureFor scope env=pure cl/\(∀y c,cl.lookup y=some c->env.cells.lookup y=some c)/\∀y,(y,NameKind.free)∈scope.names->∃c,cl.lookup y=some c:=by
 unfold closureFor
 have key:∀(l:List (Str×NameKind)) (cs:List (Str×Addr)),(∀y∈l,y.2=.free->∃c,env.cells.lookup y.1=some c)->(∀y c,cs.lookup y=some c->env.cells.lookup y=some c) →
   ∃cl,(forIn l cs fun (x:Str×NameKind) (r:List (Str×Addr))=>(if (x.2 == NameKind.free)=true then (do let c ← cellOf env x.1;pure (ForInStep.yield ((x.1,c)::r))) else pure (ForInStep.yield r):Sem (ForInStep (List (Str×Addr)))))=pure cl ∧
    (∀y c,cl.lookup y=some c->env.cells.lookup y=some c)/\(∀y,(y,NameKind.free)∈l->∃c,cl.lookup y=some c)/\(∀y c,cs.lookup y=some c->∃c',cl.lookup y=some c'):=by
  intro l
  induction l with
  | nil=>intro cs _ hc;exact ⟨cs,rfl,hc,fun y hy=>by simp at hy,fun y c e=>⟨c,e⟩⟩
  | cons p l ih =>
   intro cs hl hc;obtain ⟨n,k⟩:=p
   by_cases hk:(k == NameKind.free)=true
   ·have ek:k=.free:=eq_of_beq hk;obtain ⟨c,ec⟩:=hl (n,k) yaE ek
    obtain ⟨cl,e1,e2,e3,e4⟩:=ih ((n,c)::cs) (fun y hy=>hl y (yar _ hy)) (fun y c' e=>by
     rw [yaw] at e
     cases hq:y == n with
     | true=>rw [hq] at e;cases e;rw [eq_of_beq hq];exact ec
     | false=>rw [hq] at e;exact hc y c' e)
    refine ⟨cl,?_,e2,fun y hy=>?_,fun y c' e=>?_⟩
    ·rw [yb5];show ((if (k == NameKind.free)=true then _ else _) >>= _)=_;rw [if_pos hk]
     have ecell:cellOf env n=pure c:=by unfold cellOf;rw [ec]
     show (cellOf env n >>= _) >>= _=_;rw [ecell];simpa using e1
    ·rcases yan.mp hy with z | hy
     ·cases z;exact e4 n c (by rw [yaw];simp)
     ·exact e3 y hy
    ·cases hq:y == n with
     | true=>exact e4 y c (by rw [yaw,hq])
     | false=>exact e4 y c' (by rw [yaw,hq];exact e)
   ·obtain ⟨cl,e1,e2,e3,e4⟩:=ih cs (fun y hy=>hl y (yar _ hy)) hc;refine ⟨cl,?_,e2,fun y hy=>?_,e4⟩
    ·rw [yb5];show ((if (k == NameKind.free)=true then _ else _) >>= _)=_;rw [if_neg hk];simpa using e1
    ·rcases yan.mp hy with z | hy
     ·cases z;exact absurd rfl hk
     ·exact e3 y hy
 obtain ⟨cl,e1,e2,e3,_⟩:=key scope.names [] h (fun y c e=>by simp at e);refine ⟨cl,?_,e2,e3⟩;show ((forIn scope.names [] _:Sem (List (Str×Addr))) >>= _)=_;have e1':=congrArg (fun m=>m >>= (pure:List (Str×Addr)->Sem (List (Str×Addr)))) e1;simpa using e1
noncomputable def PIf(X:Cx)(ifs:List Expr)(t:TT):Prop :=
 ∀(pins:Z3) (s:Shared) (σ:St) (H:Hp) (Q:Bool->Hp->Prop),Inv X pins σ H s->t σ H Q →
  wpAny (model X.prog X.w) X.A (forIn ifs true fun c r=>if r=true then do let ok ← isTrue c X.env (eval c X.env);pure (ForInStep.yield ok) else pure (ForInStep.yield r)) (TP X pins σ Q) X.xe s
noncomputable def zwh:TT:=fun _ H Q=>Q true H
def znG:PIf X [] zwh:=fun _ _ _ H _ I h=>wpAny_tests_nil ⟨H,I,h⟩
def znF(h:PT X c t):PIf X [c] t:=fun pins s σ H Q I hw=>wpAny_tests_one (h pins s σ H Q I hw)
theorem zcX{scope:Scope}{env:Env}:∀{names:List (Str×NameKind)} {y:Str},(y,NameKind.free)∈names->(∀z∈names,z.1=y->z.2=.free) →
  (names.map fun (n,k)=>if (k == NameKind.free&&env.scope.kind == .function&&env.kindOf n == some .cell) then (n,NameKind.cell) else (n,k)).lookup y=some .cell ∨
  (names.map fun (n,k)=>if (k == NameKind.free&&env.scope.kind == .function&&env.kindOf n == some .cell) then (n,NameKind.cell) else (n,k)).lookup y=some .free
 | [],_,h,_=>by simp at h
 | (n,k)::r,y,h,u=>by
  rw [yaR];show List.lookup y ((if (k == NameKind.free&&env.scope.kind == .function&&env.kindOf n == some .cell)=true then (n,NameKind.cell) else (n,k))::_)=_\/List.lookup y ((if (k == NameKind.free&&env.scope.kind == .function&&env.kindOf n == some .cell)=true then (n,NameKind.cell) else (n,k))::_)=_
  cases hq:y == n with
  | true =>
   have e:n=y:=(eq_of_beq hq).symm;have ek:k=.free:=u (n,k) yaE e
   by_cases hc:(k == NameKind.free&&env.scope.kind == .function&&env.kindOf n == some .cell)=true
   ·rw [if_pos hc];left;simp [yaw,hq]
   ·rw [if_neg hc];right;simp [yaw,hq,ek]
  | false =>
   have hy:(y,NameKind.free)∈r:=by
    rcases yan.mp h with z | z
    ·cases z;simp at hq
    ·exact z
   have ih:=zcX (scope:=scope) (env:=env) hy fun z hz=>u z (yar _ hz)
   by_cases hc:(k == NameKind.free&&env.scope.kind == .function&&env.kindOf n == some .cell)=true
   ·rw [if_pos hc];simpa [yaw,hq] using ih
   ·rw [if_neg hc];simpa [yaw,hq] using ih
def Inv.track(I:Inv X pins σ H s)(hn:H D=none)(h1:X.s₀.heap.objs.size<=D)(h2:D≠X.env.locals)(h3:∀x c,X.env.cells.lookup x=some c->c≠D)(h4:∀p∈X.pn++pins,p.1≠D)
  (new:zaX X.prog X.w (upd H D o) s.heap D o):Inv X pins σ (upd H D o) s:=by
 have nD:∀b u,H b=some u->b≠D:=fun b u e=>zam e hn
 obtain ⟨h',g',d',t',o'⟩:=s;refine I.step (h':=h') (g':=g') (d':=d') (t':=t') (ch:=[D]) (fun b hb=>?_) (fun b o _ _ _ e _=>e) (fun b o _ _ _ e _=>⟨o.slots,e⟩) (fun b o hc e n=>?_) (fun b o _ e=>⟨o,e⟩) (fun b xs e=>?_) (fun b o u e=>?_) (fun b ps e=>?_) (fun m hm=>hm) (fun b u e=>?_) I.bare
 ·have e:b=D:=by simpa using hb
  subst e;exact ⟨.inr h1,h2,h3,h4⟩
 ·rw [zad (fun z=>hc (by simp [z]))];exact n
 ·rw [zad (nD _ _ e)];exact e
 ·rw [zad (nD _ _ e)];exact e
 ·exact ⟨#[],by rw [zad (nD _ _ e),e];simp⟩
 ·by_cases hb:b=D
  ·subst hb;rw [zaj] at e;cases e;exact new
  ·rw [zad hb] at e
   exact (I.hok b u e).stay (fun _ _ _ q=>q) (fun c q=>by rw [zad (nD _ _ q)];exact q) fun c xs q=>by rw [zad (nD _ _ q)];exact q
section
variable{X:Cx}{elt iter:Expr}{x:Str}{px pos:Pos}{ifs:List Expr}{scope:Scope}{caps:List (Str×Nat)}{wi:TI}{tt:TT}{te:TE}
noncomputable abbrev lob(its:List Value)(k:Nat):Obj:={ cls:=.type "list",data:=.seq its.toArray k }
end
section
variable{prog:Program}{w:World}{A:Around}{R:Result->Shared->Prop}{s:Shared}
theorem zlb(I:Nat->Shared->Prop)
  (turn:∀n s,I n s->wpAny (model prog w) A (pyNext it) (fun r s₁=>match r with
   | none=>R (.ok .next) s₁
   | some v=>wpAny (model prog w) A (letOwnedTupleGo target it v) (fun _ s₀=>wpAny (model prog w) A (assign target env v) (fun _ s₂ =>
     wpAny (model prog w) A (forIn ifs true fun c r=>if r=true then do let ok ← isTrue c env (eval c env);pure (ForInStep.yield ok) else pure (ForInStep.yield r)) (fun ok s₃ =>
      if ok=true then wpAny (model prog w) A (eval elt env) (fun x s₄ =>
       wpAny (model prog w) A (call (.builtin "list.append") [acc,x]) (fun _ s₅=>∃m,m<n/\I m s₅) (notedBy (model prog w) A env fun e s'=>R (.error e) s') s₄) (notedBy (model prog w) A env fun e s'=>R (.error e) s') s₃
      else ∃m,m<n/\I m s₃) (notedBy (model prog w) A env fun e s'=>R (.error e) s') s₂) (notedBy (model prog w) A env fun e s'=>R (.error e) s') s₀) (notedBy (model prog w) A env fun e s'=>R (.error e) s') s₁) (notedBy (model prog w) A env fun e s'=>R (.error e) s') s)
  (n:Nat) (h:I n s):codeAny (model prog w) A (.compLoop (.ListComp elt [⟨target,iter,ifs,0⟩] scope pos) 0 it acc env) R s:=by
 refine codeAny_loop rfl I (fun n s hI=>?_) n h;show wpAny _ A ((compTurn (.ListComp elt [⟨target,iter,ifs,0⟩] scope pos) 0 it acc env).onRaise (fun x=>do noteFrame x env;theTreesLotGoes x)) _ _ s;refine wpAny_noted ?_;rw [compTurn_list];refine yaa (ydk (yaa (ybb (turn n s hI) (fun r s₁ h₁=>?_) fun _ _ h'=>h')))
 cases r with
 | none=>exact yae h₁
 | some v =>
  refine yaa (ybb h₁ (fun _ s₀ h₀=>?_) fun _ _ h'=>h');refine yaa (ybb h₀ (fun _ s₂ h₂=>yaa (ybb h₂ (fun ok s₃ h₃=>?_) fun _ _ h'=>h')) fun _ _ h'=>h')
  cases ok with
  | false=>exact yae ⟨rfl,h₃⟩
  | true =>
   exact yaa (yaa (ybb h₃ (fun x s₄ h₄=>yaa (ybb h₄ (fun _ s₅ h₅=>yae (yae ⟨rfl,h₅⟩)) fun _ _ h'=>h')) fun _ _ h'=>h'))
end
theorem zaH:∀(names:List (Str×NameKind)) (n:Nat) (acc:List (Str×Addr)),cellsFrom n names acc=cellsFrom n names []++acc
 | [],_,_=>rfl
 | (x,k)::r,n,acc=>by
  unfold cellsFrom;split
  ·rw [zaH r (n+1) ((x,n)::acc),zaH r (n+1) [(x,n)]];simp
  ·exact zaH r n acc
theorem zbz:∀(names:List (Str×NameKind)) (n:Nat) {x:Str} {c:Addr},(x,c)∈cellsFrom n names []->(x,NameKind.cell)∈names
 | [],_,_,_,h=>by cases h
 | (y,k)::r,n,x,c,h=>by
  unfold cellsFrom at h;split at h
  ·rename_i hk;rw [zaH] at h
   rcases ybO.mp h with h | h
   ·exact yar _ (zbz r _ h)
   ·rw [yaX] at h;cases h;rw [ybV.mp hk];exact yaE
  ·exact yar _ (zbz r _ h)
theorem zbb{α:Type}:∀{l m:List (Str×α)},(l++m).lookup x=(l.lookup x).or (m.lookup x)
 | [],m=>rfl
 | (y,a)::l,m=>by
  rw [List.cons_append,yaw,yaw]
  cases x == y with
  | true=>rfl
  | false=>exact zbb
theorem zba:∀(names:List (Str×NameKind)) (n:Nat) {x:Str},(x,NameKind.cell)∈names->∃c,(cellsFrom n names []).lookup x=some c
 | [],_,_,h=>by cases h
 | (y,k)::r,n,x,h=>by
  unfold cellsFrom;split
  ·rename_i hk;rw [zaH,zbb]
   rcases yan.mp h with e | h
   ·cases e
    cases hq:(cellsFrom (n+1) r []).lookup y with
    | some c=>exact ⟨c,rfl⟩
    | none=>exact ⟨n,by simp [yaw]⟩
   ·obtain ⟨c,e⟩:=zba r (n+1) h;rw [e];exact ⟨c,rfl⟩
  ·rename_i hk
   rcases yan.mp h with e | h
   ·cases e;exact absurd rfl hk
   ·exact zba r n h
def zbk{M:Model}{A:Around}{E:Z5}{s:Shared}{scope:Scope}{globals:Addr}{closure:List (Str×Addr)}{qual:Str}{func:Option Addr}{code:Value}{outer:Env}{builtins:Addr}{Q:Env->Shared->Prop}
  (hQ:∀h',h'.Ns s.heap.objs.size (fun _=>none)->(∀b o,s.heap.get? b=some o->h'.get? b=some o)->CellsOk h' (s.heap.objs.size+1) (cellsFrom (s.heap.objs.size+1) scope.names []) →
   Q (newEnv scope s.heap.objs.size globals (cellsFrom (s.heap.objs.size+1) scope.names []++closure) qual func code (some outer) builtins) { s with heap:=h' }) :
  wpAny M A (newFunctionEnv scope globals closure [] qual func code (some outer) builtins) Q E s:=by
 simp only [newFunctionEnv,Option.isSome_some,ybY];refine yaa (wpAny_alloc ?_);refine yaa (wpAny_layCells _ (fun name kind cells=>by cases hkc:kind == NameKind.cell<;>simp [hkc]) _ _ _ _ ?_);have ok:=cellsFrom_ok scope.names (s.heap.push { cls:=.type "dict",data:=.dict #[] }) (s.heap.objs.size+1) [] ⟨fun _ _ hm=>(nomatch hm),List.Pairwise.nil⟩ (by rw [yaS];exact yah _);rw [yaS] at ok;rw [show ({ s with heap:=s.heap.push { cls:=.type "dict",data:=.dict #[] } }:Shared).heap.objs.size=s.heap.objs.size+1 from yaS ..];rw [zaH];simp only [List.forIn_nil];refine yaa (yae (yae ?_));exact hQ _ ((Heap.Ns.new s.heap (.type "dict")).keeps (pushCells_keeps _ _)) (fun b o e=>pushCells_keeps _ _ b o (yad _ e)) ok
structure CompScopeG(sc scope:Scope)(N:List Str)(xs:List Str)(caps:List (Str×Nat)):Prop where
 nd:(scope.names.map (·.1)).Nodup
 kind:scope.kind=.function
 names:∀y∈scope.names,y.2=.local->scope.names.lookup y.1=some .local
 free:∀y∈scope.names,y.2=.free->sc.names.lookup y.1=some .cell\/sc.names.lookup y.1=some .free
 cap:∀p∈caps,N[p.2]?=some p.1/\(p.1,NameKind.free)∈scope.names/\sc.names.lookup p.1≠some .local
 uniq:∀p∈caps,∀z∈scope.names,z.1=p.1->z.2=.free
noncomputable def zaM(X:Cx)(xs:List Str)(caps:List (Str×Nat))(scope:Scope)(cl:List (Str×Addr))(C:Addr)(s:Shared)(H:Hp)(ex:List Addr):Cx :=
 { X with N:=xs++caps.map (·.1),s₀:=s,H₀:=H,env:=compEnvC scope cl C X.env,outer:=X.stack,ex:=ex,fn:=fun x=>decide (scope.names.lookup x=some .cell),pn:=[],xe:=fun _ _=>False }
noncomputable abbrev capσ(σ:St)(n:Nat)(caps:List (Str×Nat)):St:=List.replicate n none++caps.map fun p=>(σ[p.2]?).join
noncomputable def zgG(wi:TI)(g:TG)(tt:TT)(te:TE)(n:Nat)(caps:List (Str×Nat)):TE:=fun σ H Q=>wi σ H fun J H1=>∃W:Nat->Nat->List V->St->Hp->Prop,(∃m,W 0 m [] (capσ σ n caps) H1)/\∀i m ys σ' H,W i m ys σ' H →
 ys.length<=sizeLine/\((J.stop i H/\∀p,H p=none->Q (.ref p) (upd H p (.lst ys))) ∨
 (J.go i H/\∀x H',J.yld i H x H'->g x σ' H' fun σ2 H2=>tt σ2 H2 fun ok H3=>if ok=true then te σ2 H3 fun y H4=>∃m',m'<m/\W (i+1) m' (ys++[y]) σ2 H4 else ∃m',m'<m/\W (i+1) m' ys σ2 H3))
section
variable{X:Cx}{elt iter tg:Expr}{xs:List Str}{pos:Pos}{ifs:List Expr}{scope:Scope}{caps:List (Str×Nat)}{wi:TI}{g:TG}{tt:TT}{te:TE}
structure OwnC(X:Cx)(scope:Scope)(lo:Nat)(h:Heap)(cl:List (Str×Addr)):Prop where
 sort:∀y c,cl.lookup y=some c->X.env.cells.lookup y=some c\/(h.IsCell c none/\lo<=c)
 inj:∀y z c,cl.lookup y=some c->cl.lookup z=some c->y=z
 has:∀y,((y,NameKind.free)∈scope.names\/(y,NameKind.cell)∈scope.names)->∃c,cl.lookup y=some c
 own:∀y c,scope.names.lookup y=some .cell->cl.lookup y=some c->lo<=c
 free:∀y,(y,NameKind.free)∈scope.names->∃c,cl.lookup y=some c/\X.env.cells.lookup y=some c
def ze5(h:(relabel scope env).names.lookup y=some .cell\/(relabel scope env).names.lookup y=some .free):(y,NameKind.free)∈scope.names\/(y,NameKind.cell)∈scope.names:=by
 have go:∀k,(relabel scope env).names.lookup y=some k->(k=.cell\/k=.free)->(y,NameKind.free)∈scope.names\/(y,NameKind.cell)∈scope.names:=fun k e hk=>by
  have hm:=yax e;obtain ⟨⟨n,k0⟩,hp,e2⟩:=ybd.mp hm
  by_cases hq:(k0 == .free&&env.scope.kind == .function&&env.kindOf n == some .cell)=true
  ·have e3:(n,NameKind.cell)=(y,k):=by rw [<-e2];show _=if _ then _ else _;rw [if_pos hq]
   cases e3
   have:k0=.free:=by simp only [yab] at hq;exact eq_of_beq hq.1.1
   subst this;exact .inl hp
  ·have e3:(n,k0)=(y,k):=by rw [<-e2];show _=if _ then _ else _;rw [if_neg hq]
   cases e3
   rcases hk with rfl | rfl
   ·exact .inr hp
   ·exact .inl hp
 rcases h with h | h
 ·exact go _ h (.inl rfl)
 ·exact go _ h (.inr rfl)
theorem zff:∀{l:List (Str×NameKind)},(l.map (·.1)).Nodup->∀{x:Str} {a b:NameKind},(x,a)∈l->(x,b)∈l->a=b
 | [],_,_,_,_,h,_=>by cases h
 | p::l,nd,x,a,b,h,h'=>by
  rw [yaR,ybQ] at nd
  rcases yan.mp h with h | h<;>rcases yan.mp h' with h' | h'
  ·rw [<-h'] at h;exact (Prod.mk.inj h).2
  ·exact absurd (ybd.mpr ⟨_,h',by rw [<-h]⟩) nd.1
  ·exact absurd (ybd.mpr ⟨_,h,by rw [<-h']⟩) nd.1
  ·exact zff nd.2 h h'
def zi3{X:Cx}{scope:Scope}{lo n:Nat}{h:Heap}{cl:List (Str×Addr)}(nd:(scope.names.map (·.1)).Nodup)(hn:lo<=n)(hinj:∀x y c,X.env.cells.lookup x=some c->X.env.cells.lookup y=some c->x=y)
  (hcl:∀y c,cl.lookup y=some c->X.env.cells.lookup y=some c) (hlo:∀y c,X.env.cells.lookup y=some c->c<lo) (hhas:∀y,(y,NameKind.free)∈scope.names->∃c,cl.lookup y=some c) (ok:CellsOk h n (cellsFrom n scope.names [])) :
  OwnC X scope lo h (cellsFrom n scope.names []++cl):=by
 have sort:∀y c,(cellsFrom n scope.names []++cl).lookup y=some c->((cellsFrom n scope.names []).lookup y=some c)\/((cellsFrom n scope.names []).lookup y=none/\cl.lookup y=some c):=fun y c e=>by
  rw [zbb] at e
  cases hq:(cellsFrom n scope.names []).lookup y with
  | some c'=>rw [hq] at e;exact .inl e
  | none=>rw [hq] at e;exact .inr ⟨rfl,e⟩
 refine ⟨fun y c e=>?_,fun y z c e e'=>?_,fun y hy=>?_,fun y c hy e=>?_,fun y hy=>?_⟩
 ·rcases sort y c e with z | ⟨_,z⟩
  ·have:=ok.empty y c (yax z);exact .inr ⟨this.1,yas hn this.2⟩
  ·exact .inl (hcl y c z)
 ·rcases sort y c e with a | ⟨_,a⟩<;>rcases sort z c e' with b | ⟨_,b⟩
  ·exact name_of_addr ok.apart (yax a) (yax b)
  ·have h1:=(ok.empty y c (yax a)).2;have h2:=hlo z c (hcl z c b);exact absurd (yak h2 (yas hn h1)) (yaL _)
  ·have h1:=(ok.empty z c (yax b)).2;have h2:=hlo y c (hcl y c a);exact absurd (yak h2 (yas hn h1)) (yaL _)
  ·exact hinj y z c (hcl y c a) (hcl z c b)
 ·rw [zbb]
  cases hq:(cellsFrom n scope.names []).lookup y with
  | some c=>exact ⟨c,rfl⟩
  | none =>
   rcases hy with hy | hy
   ·exact hhas y hy
   ·obtain ⟨c,e⟩:=zba scope.names n hy;rw [hq] at e;cases e
 ·obtain ⟨c',e'⟩:=zba scope.names n (yax hy);rw [zbb,e'] at e;have:c'=c:=Option.some.inj e;subst this;exact yas hn (ok.empty y c' (yax e')).2
 ·obtain ⟨c,e⟩:=hhas y hy;refine ⟨c,?_,hcl y c e⟩;rw [zbb]
  cases hq:(cellsFrom n scope.names []).lookup y with
  | some c' =>
   have:=zbz scope.names n (yax hq);cases zff nd hy this
  | none=>exact e
theorem zjR(S:CompScopeG X.env.scope scope X.N xs caps)(hu:∀p∈caps,∀z∈scope.names,z.1=p.1->z.2=.free)
  (I:Inv X pins σ H s) (hcl:OwnC X scope s.heap.objs.size s'.heap cl)
  (hf:∀b∈fp,zkd X pins H b) (hlt:∀b∈fp,b<s.heap.objs.size) (hC:s.heap.objs.size<=C) (ho:s'.os=s.os) (hg:s'.gens=s.gens) (hk:∀b o,s.heap.get? b=some o->s'.heap.get? b=some o) (hn:s'.heap.Ns C (fun _=>none)) :
  Inv (zaM X xs caps scope cl C s H fp) [] (capσ σ xs.length caps) H s':=by
 have cellK:∀y c,cl.lookup y=some c->∃v,s'.heap.IsCell c v:=fun y c e=>by
  rcases hcl.sort y c e with z | z
  ·obtain ⟨v,o,q,d⟩:=I.cell y c z;exact ⟨v,o,hk _ _ q,d⟩
  ·exact ⟨none,z.1⟩
 refine ⟨⟨I.ok.mod,S.kind,I.ok.glob,I.ok.blt,hC,hcl.inj,fun y hy=>hcl.has y (ze5 hy),fun y c z e=>hcl.own y c (yal z) e,I.ok.hd,I.ok.frames,.inl rfl,fun b hb=>⟨yap (yak (hlt b hb) hC),fun y c e=>(hcl.sort y c e).elim (fun z=>(hf b hb).2.2.2.2.1 y c z) fun z=>yaT (yak (hlt b hb) z.2)⟩,
  I.bs,yas I.ok.bsz I.sz,fun b o e hb=>?_,fun b hb hm=>?_,I.stack,I.stkFree⟩,ho,by rw [hg];exact I.bare,Un.kept hk,⟨_,hn,fun i y v h1 h2 h3=>?_⟩,fun y c e=>cellK y c e,I.hok.fresh hC,fun y c e=>(hcl.sort y c e).elim (I.freeC y c) fun z=>I.hok.fresh z.2,fun p hp=>absurd (show p∈([]:Z3) from hp) (by simp),I.hok.kept hk,?_⟩
 ·rcases (hf b hb).2.2.2.1 with z | z
  ·exact I.ok.noex b o e z
  ·exact absurd (yak (yaj e) (yas I.ok.bsz z)) (yaL _)
 ·rcases yan.mp (I.stkSub b hm) with z | z
  ·exact (hf b hb).2.1 z
  ·exact (hf b hb).2.2.1 z
 ·have hi:¬ i<xs.length:=fun hi=>by
   have h2':(capσ σ xs.length caps)[i]?=some (some v):=h2;rw [yaF (by rw [yaO];exact hi),ybz] at h2'
   split at h2'<;>cases h2'
  ·have h1':(caps.map (·.1))[i-xs.length]?=some y:=by
    have h1':(xs++caps.map (·.1))[i]?=some y:=h1;rwa [yav (by omega)] at h1'
   rw [yaq] at h1'
   have h2':(caps.map fun p=>(σ[p.2]?).join)[i-xs.length]?=some (some v):=by
    have h2':(capσ σ xs.length caps)[i]?=some (some v):=h2;rw [yav (by rw [yaO];omega),yaO] at h2';exact h2'
   rw [yaq] at h2'
   cases hp:caps[i-xs.length]? with
   | none=>rw [hp] at h1';cases h1'
   | some p =>
    rw [hp] at h1' h2';have ey:p.1=y:=Option.some.inj h1';have ev:(σ[p.2]?).join=some v:=Option.some.inj h2';subst ey;have hmem:p∈caps:=ya8 hp;obtain ⟨c1,c2,c3⟩:=S.cap p hmem
    have eσ:σ[p.2]?=some (some v):=by
     cases q:σ[p.2]? with
     | none=>rw [q] at ev;cases ev
     | some w=>rw [q] at ev;have:w=some v:=ev;rw [this]
    have hfr:=S.free _ c2 rfl;have hv:Vis X.env.scope p.1:=hfr.elim (fun z=>.inr (.inl z)) (fun z=>.inr (.inr z));obtain ⟨m,_,hl⟩:=I.loc;obtain ⟨u,r,l⟩:=hl p.2 p.1 v c1 eσ hv;refine ⟨u,r,.inr ⟨zcX (scope:=scope) (env:=X.env) c2 (hu p hmem),?_⟩⟩;obtain ⟨c,ec,ec2⟩:=hcl.free p.1 c2;refine ⟨c,ec,?_⟩
    rcases l with ⟨z,_⟩ | ⟨_,c',ec',hcell⟩
    ·exact absurd z c3
    ·have:c'=c:=by rw [ec2] at ec';exact (Option.some.inj ec').symm
     subst this;obtain ⟨o,q,d⟩:=hcell;exact ⟨o,hk _ _ q,d⟩
 ·simp [zaM,capσ]
theorem zfE{use:Option (Value->Sem Unit)}{Qf:Z5}{R:VK}{pins:Z3}{s:Shared}{σ:St}{H:Hp}(hc:X.calm=true)(S:CompScopeG X.env.scope scope X.N xs caps)(hi:PI X tg iter wi)(hg:∀cl C s H fp,PG (zaM X xs caps scope cl C s H fp) tg g)
  (ht:∀cl C s H fp,PIf (zaM X xs caps scope cl C s H fp) ifs tt) (he:∀cl C s H fp,PE (zaM X xs caps scope cl C s H fp) elt te)
  (hs:∀v,foldedSetIterable iter X.env v=pure v) (I:Inv X pins σ H s) (h:zgG wi g tt te xs.length caps σ H R)
  (fin:∀(D C:Addr) (s4:Shared) (m4:Z6) (H6:Hp) (r:Flow),s4.heap.Ns C m4->(∀{σ':St} {H7:Hp} {s5:Shared} {h':Heap},Inv X pins σ' H7 s5->Heap.SameBut C s5.heap h'->H7 C=none->Inv X pins σ' H7 { s5 with heap:=h' })->H6 C=none->C≠X.env.locals->(∀y c,X.env.cells.lookup y=some c->C≠c)->Inv X pins σ H6 s4->R (.ref D) H6->compPost (model X.prog X.w) X.A X.xe use Qf (.ref D) C (.ok r) s4) :
  wpAny (model X.prog X.w) X.A (comprehension (.ListComp elt [⟨tg,iter,ifs,0⟩] scope pos) scope X.env (firstIterPos [⟨tg,iter,ifs,0⟩] pos) (newList []) false (eval iter X.env) use) Qf X.xe s:=by
 obtain ⟨cl,hclos,hcl,hhas⟩:=zed (scope:=scope) (env:=X.env) fun y hy hf=>I.ok.has y.1 (S.free y hy hf)
 refine wpAny_comprehension_free (use:=use) rfl hs hclos S.kind S.names (thn (hi pins s σ H _ I h) fun v s1 h1=>thn h1 fun itv s2 h2=>?_);obtain ⟨it,fp,tn,J,H2,rfl,I2,T,st2,f2,W,⟨m0,w0⟩,turn⟩:=h2;refine yaK (zbk (fun h₁ hns₁ hsb₁ hok₁=>?_));dsimp only at hns₁ hsb₁ hok₁ ⊢;generalize hHp:s2.heap.push { cls:=.type "list",dict:=none,data:=.seq ([]:List Value).toArray }=Hq at hns₁ hsb₁ hok₁ ⊢
 have hCe:Hq.objs.size=s2.heap.objs.size+1:=by rw [<-hHp,yaS]
 have hDC:s2.heap.objs.size≠Hq.objs.size:=by rw [hCe];exact yap (ybj _)
 have hC:s2.heap.objs.size<=Hq.objs.size:=by rw [hCe];exact yb3 _
 have old:∀b o,s2.heap.get? b=some o->h₁.get? b=some o:=fun b o e=>hsb₁ b o (hHp ▸ yad _ e)
 have hacc:h₁.get? s2.heap.objs.size=some (lob [] 0):=hsb₁ _ _ (hHp ▸ yag _ rfl)
 have cellX:∀y c,X.env.cells.lookup y=some c->c<s2.heap.objs.size:=fun y c e=>by obtain ⟨v,q⟩:=I2.cell y c e;exact q.lt
 have oc:=zi3 (X:=X) (lo:=s2.heap.objs.size+1) S.nd (by rw [hCe];exact yb3 _) I.ok.inj hcl (fun y c e=>ybe (cellX y c e)) hhas hok₁;generalize hcl2:cellsFrom (Hq.objs.size+1) scope.names []++cl=cl2 at oc ⊢;have oc':OwnC X scope s2.heap.objs.size h₁ cl2:=⟨fun y c e=>(oc.sort y c e).imp id fun z=>⟨z.1,ydh z.2⟩,oc.inj,oc.has,fun y c a e=>ydh (oc.own y c a e),oc.free⟩
 have hlt:∀b∈fp,b<s2.heap.objs.size:=fun b hb=>by obtain ⟨o,e,_⟩:=T.obj 0 _ st2 b hb;exact yaj e
 generalize hY:zaM X xs caps scope cl2 Hq.objs.size s2 H2 fp=Y;have PEY:PE Y elt te:=hY ▸ he cl2 _ s2 H2 fp;have PIY:PIf Y ifs tt:=hY ▸ ht cl2 _ s2 H2 fp;have PGY:PG Y tg g:=hY ▸ hg cl2 _ s2 H2 fp
 have I3:Inv Y [] (capσ σ xs.length caps) H2 { s2 with heap:=h₁ }:=by
  rw [<-hY];exact zjR S S.uniq I2 oc' f2 hlt hC rfl rfl old hns₁
 have eYenv:Y.env=compEnvC scope cl2 Hq.objs.size X.env:=by rw [<-hY];rfl
 have eYloc:Y.env.locals=Hq.objs.size:=by rw [eYenv];rfl
 have eYfs:Y.fs=frs X.stack:=by rw [<-hY];rfl
 have eYprog:Y.prog=X.prog:=by rw [<-hY];rfl
 have eYw:Y.w=X.w:=by rw [<-hY];rfl
 have eYK:Y.K=X.K:=by rw [<-hY];rfl
 have eYA:Y.A=X.A:=by rw [<-hY];rfl
 have eYc:Y.calm=true:=by rw [<-hY];exact hc
 have eYex:Y.ex=fp:=by rw [<-hY];rfl
 have eYs:Y.s₀=s2:=by rw [<-hY];rfl
 have eYH:Y.H₀=H2:=by rw [<-hY];rfl
 have eYpn:Y.pn=[]:=by rw [<-hY];rfl
 have eYcell:∀y c,Y.env.cells.lookup y=some c->X.env.cells.lookup y=some c\/s2.heap.objs.size+1<=c:=fun y c e=>(oc.sort y c (by rwa [eYenv] at e)).imp id (·.2)
 have eYxe:∀e s',¬ Y.xe e s':=fun e s' z=>by rwa [<-hY] at z
 have stkX:∀b∈frs X.stack,b<s2.heap.objs.size:=fun b hb=>by
  rcases yan.mp (I2.stkSub b hb) with z | z
  ·rw [z];exact I2.lt
  ·refine Nat.not_le.mp fun hle=>I2.nofs hle z
 have pinX:∀p∈X.pn++pins,p.1<s2.heap.objs.size:=fun p hp=>yaj (I2.pin p hp).1
 have fpY:∀{H':Hp} {its:List Value} {k:Nat},(∀b∈fp,H' b=none)->∀b∈fp,zkd Y [(s2.heap.objs.size,lob its k)] H' b:=fun {H' its k} hn b hb=>by
  refine ⟨hn b hb,by rw [eYloc];exact yap (yak (hlt b hb) hC),?_,.inl (by rw [eYex];exact hb),fun y c e=>(eYcell y c e).elim (fun z=>(f2 b hb).2.2.2.2.1 y c z) fun z=>yaT (yak (hlt b hb) (ydh z)),fun p hp=>?_⟩
  ·rw [eYfs];intro hm
   rcases yan.mp (I2.stkSub b hm) with z | z
   ·exact (f2 b hb).2.1 z
   ·exact (f2 b hb).2.2.1 z
  ·rw [eYpn] at hp
   have e:p=(s2.heap.objs.size,lob its k):=by simpa using hp
   rw [e];exact yaT (hlt b hb)
 have pinD:∀{H':Hp} {σ':St} {s':Shared} {its:List Value} {k:Nat},Inv Y [] σ' H' s'->s'.heap.get? s2.heap.objs.size=some (lob its k)->H' s2.heap.objs.size=none->Inv Y [(s2.heap.objs.size,lob its k)] σ' H' s':=fun {H' σ' s' its k} I' e n =>
  I'.pins_of fun p hp=>by
   have ep:p=(s2.heap.objs.size,lob its k):=by simpa using hp
   subst ep;refine ⟨e,n,by rw [eYloc];exact hDC,?_,fun v z=>?_⟩
   ·rw [eYfs];exact fun hm=>yaL _ (stkX _ hm)
   ·have z':Data.seq its.toArray k=Data.cell v:=z;cases z'
 have loop:codeAny (model X.prog X.w) X.A (.compLoop (.ListComp elt [⟨tg,iter,ifs,0⟩] scope pos) 0 (.ref it) (.ref s2.heap.objs.size) (compEnvC scope cl2 Hq.objs.size X.env))
   (compPost (model X.prog X.w) X.A X.xe use Qf (.ref s2.heap.objs.size) Hq.objs.size) { s2 with heap:=h₁ }:=by
  refine zlb (fun n s'=>∃i σx H' ys its k,Inv Y [(s2.heap.objs.size,lob its k)] σx H' s'/\tn i s'.heap/\(∀b∈fp,H' b=none)/\Vals ys its/\W i n ys σx H') ?_ m0
   ⟨0,capσ σ xs.length caps,H2,[],[],0,pinD I3 hacc (I2.hok.fresh (yah _)),T.keep _ _ _ st2 fun b hb o e=>old b o e,fun b hb=>(f2 b hb).1,.nil,w0⟩
  rintro n s3 ⟨i,σx,H3,ys,its,k,J3,st3,fr3,rv,w3⟩;obtain ⟨hz,hcase⟩:=turn i n ys σx H3 w3
  rcases hcase with ⟨stop,q⟩ | ⟨go,step⟩
  ·have hd:=T.done Y eYprog eYw eYK eYc i _ s3 _ H3 (notedBy (model X.prog X.w) X.A (compEnvC scope cl2 Hq.objs.size X.env) fun e s'=>compPost (model X.prog X.w) X.A X.xe use Qf (.ref s2.heap.objs.size) Hq.objs.size (.error e) s') J3 (fpY fr3) st3 stop;rw [eYA] at hd;refine thn hd fun r s4 ⟨hr,J4⟩=>?_
   subst hr;obtain ⟨m4,hn4,_⟩:=J4.loc
   have hn4':s4.heap.Ns Hq.objs.size m4:=by rw [<-eYloc];exact hn4
   have hnC:H3 Hq.objs.size=none:=by rw [<-eYloc];exact J4.free
   have hk5:HOk X.prog X.w H3 s4.heap:=by rw [<-eYprog,<-eYw];exact J4.hok
   have u5:Un (frs X.stack) fp H2 H3 s2.heap s4.heap:=by
    have ub:=J4.base;rwa [eYfs,eYex,eYH,eYs] at ub
   have J5:Inv X pins σ H3 s4:=I2.call' (s':=s4) (ch:=fp) (by have:=J4.os;rwa [eYs] at this) u5 hk5 J4.bare fun b hb=>⟨(f2 b hb).2.2.2.1,(f2 b hb).2.1,(f2 b hb).2.2.2.2.1,(f2 b hb).2.2.2.2.2⟩
   have hp4:=J4.pin (s2.heap.objs.size,lob its k) (yaN _ yaE);have hD5:s4.heap.get? s2.heap.objs.size=some (lob its k):=hp4.1;have J6:Inv X pins σ (upd H3 s2.heap.objs.size (.lst ys)) s4:=J5.track hp4.2.1 I2.sz (yaT I2.lt) (fun y c e=>yap (cellX y c e)) (fun p hp=>yap (pinX p hp)) (show zaX X.prog X.w _ s4.heap _ (.lst ys) from ⟨hz,its,k,rv,hD5⟩);have hCloc:Hq.objs.size≠X.env.locals:=yaT (yak I2.lt hC);exact fin _ Hq.objs.size s4 m4 _ _ hn4' (fun {σ'} {H7} {s5} {h'} J sb' hn=>J.turned (t':=s5.toks) (it:=Hq.objs.size) (fun b o hb e=>(sb'.2 b hb).trans e) hn hCloc (.inr (yas I2.sz hC)) (fun y c e=>yap (yak (cellX y c e) hC)) (fun p hp=>yap (yak (pinX p hp) hC))) (by rw [zad (Ne.symm hDC)];exact hnC) hCloc (fun y c e=>yaT (yak (cellX y c e) hC)) J6 (q _ hp4.2.1)
  ·have hd:=T.item Y eYprog eYw eYK eYc i _ s3 _ H3 (notedBy (model X.prog X.w) X.A (compEnvC scope cl2 Hq.objs.size X.env) fun e s'=>compPost (model X.prog X.w) X.A X.xe use Qf (.ref s2.heap.objs.size) Hq.objs.size (.error e) s') J3 (fpY fr3) st3 go;rw [eYA] at hd;refine thn hd fun r s4 ⟨u,hr,h4⟩=>?_
   subst hr;refine thn h4 fun _ s5 ⟨v4,H4,J4,r4,y4,st5,fr4⟩=>?_
   have J4':=J4.pinned (fp:=fp) (fpY fr4) (T.obj _ _ st5);have ha:=PGY _ s5 σx H4 v4 u _ J4' r4 (step v4 H4 y4);rw [eYprog,eYw,eYA,eYenv] at ha;refine ybb ha (fun _ s5' ⟨σ5,H5,J5',q5⟩=>?_) fun e s' z=>(eYxe _ _ z).elim
   have ht5:=PIY _ s5' σ5 H5 _ J5' q5;rw [eYprog,eYw,eYA,eYenv] at ht5;refine ybb ht5 (fun ok s6 ⟨H6,J6,q6⟩=>?_) fun e s' z=>(eYxe _ _ z).elim
   have back:∀{H7:Hp} {s7:Shared},Inv Y ([(s2.heap.objs.size,lob its k)]++zfb fp s5.heap) σ5 H7 s7->tn (i+1) s7.heap/\∀b∈fp,H7 b=none:=fun {H7 s7} J7 =>
    ⟨T.keep _ _ _ st5 fun b hb o e=>(J7.pin (b,o) (yaN _ (yaN _ (zbZ hb e)))).1,fun b hb=>by
     obtain ⟨o,e,d⟩:=T.obj _ _ st5 b hb
     exact (J7.pin (b,o) (yaN _ (yaN _ (zbZ hb e)))).2.1⟩
   cases ok with
   | false =>
    rw [if_neg yaG] at q6;rw [if_neg yaG];obtain ⟨m',hm',w6⟩:=q6;exact ⟨m',hm',i+1,σ5,H6,ys,its,k,J6.unpinned,(back J6).1,(back J6).2,rv,w6⟩
   | true =>
    rw [if_pos rfl] at q6;rw [if_pos rfl];have he6:=PEY _ s6 _ H6 _ J6 q6;rw [eYprog,eYw,eYA,eYenv] at he6;refine ybb he6 (fun u7 s7 ⟨v7,H7,J7,r7,m',hm',w7⟩=>?_) fun e s' z=>(eYxe _ _ z).elim
    obtain ⟨st7,fr7⟩:=back J7;have hp7:=(J7.unpinned).pin (s2.heap.objs.size,lob its k) (yaN _ yaE);have hl:=rv.length;refine append_at (hsz:=by show its.toArray.size<=sizeLine;rw [yaf];omega) hp7.1 fun h8 sb8 hD8=>?_
    have J7':Inv Y [] σ5 H7 s7:=J7.unpinned.pins_of fun p hp=>absurd hp (by simp)
    have J8:Inv Y [] σ5 H7 { s7 with heap:=h8 }:=J7'.turned (t':=s7.toks) (it:=s2.heap.objs.size) (fun b o hb e=>(sb8.2 b hb).trans e) hp7.2.1 (by rw [eYloc];exact hDC) (.inr (by rw [eYs];exact yah _)) (fun y c e=>(eYcell y c e).elim (fun z=>yap (cellX y c z)) fun z=>yaT z) (fun p hp=>by rw [eYpn] at hp;simp at hp)
    have hD8':h8.get? s2.heap.objs.size=some (lob (its++[u7]) (k+1)):=by rw [hD8];simp [lob]
    exact ⟨m',hm',i+1,σ5,H7,ys++[v7],its++[u7],k+1,pinD J8 hD8' hp7.2.1,T.keep _ _ _ st7 fun b hb o e=>(sb8.2 b (yap (hlt b hb))).trans e,fr7,rv.append (.cons r7 .nil),w7⟩
 exact codeAny_compStart_list loop (T.self X.A 0 _ _ _ (T.keep _ _ _ st2 fun b hb o e=>old b o e) loop)
def zkT(hc:X.calm=true)(S:CompScopeG X.env.scope scope X.N xs caps)(hi:PI X tg iter wi)(hg:∀cl C s H fp,PG (zaM X xs caps scope cl C s H fp) tg g)
  (ht:∀cl C s H fp,PIf (zaM X xs caps scope cl C s H fp) ifs tt) (he:∀cl C s H fp,PE (zaM X xs caps scope cl C s H fp) elt te)
  (hs:∀v,foldedSetIterable iter X.env v=pure v:=by intro _;rfl):PE X (.ListComp elt [⟨tg,iter,ifs,0⟩] scope pos) (zgG wi g tt te xs.length caps):=by
 intro pins s σ H Q I h;rw [eval_ListComp];exact zfE (use:=none) hc S hi hg ht he hs I h fun D C s4 m4 H6 r hn tr hC _ _ J6 q=>⟨m4,hn,fun h5 sb=>⟨.ref D,H6,tr J6 sb hC,rfl,q⟩⟩
def zkG(hc:X.calm=true)(S:CompScopeG X.env.scope scope X.N xs caps)(hN0:X.N.Nodup)(hi0:X.N[k0]?=some y0)(hx0:Loc X.env.scope y0)(hi:PI X tg iter wi)(hg:∀cl C s H fp,PG (zaM X xs caps scope cl C s H fp) tg g)
  (ht:∀cl C s H fp,PIf (zaM X xs caps scope cl C s H fp) ifs tt) (he:∀cl C s H fp,PE (zaM X xs caps scope cl C s H fp) elt te)
  (hsw:swapsWith (.ListComp elt [⟨tg,iter,ifs,0⟩] scope pos) (some (.Name y0 py)) spos.line X.env=pure true)
  (hf0:X.fn y0=true\/X.env.scope.names.lookup y0=some .local)
  (hs:∀v,foldedSetIterable iter X.env v=pure v):PS X (.Assign [.Name y0 py] (.ListComp elt [⟨tg,iter,ifs,0⟩] scope pos) spos) (zmV (zgG wi g tt te xs.length caps) (zhS k0)):=by
 intro pins s σ H DD I h;rw [exec_Assign_Name_used _ _ _ _ hsw];refine yaa (ydk (yaa ?_));show wpAny _ X.A (do let _ ← comprehension (.ListComp elt [⟨tg,iter,ifs,0⟩] scope pos) scope X.env _ (newList []) false (eval iter X.env) (some (assign (.Name y0 py) X.env))) _ _ s;refine yaa (ybb (zfE (use:=some (assign (.Name y0 py) X.env)) (Qf:=fun _ s'=>SP X pins DD .next s') hc S hi hg ht he hs I h fun D C s4 m4 H6 r hn tr hC hl hce J6 q=>?_) (fun _ s' hq=>yae (yae hq)) fun _ _ e=>e);show wpAny _ X.A (assign (.Name y0 py) X.env (.ref D)) _ X.xe s4;refine wpAny_assign_Name (zeZ (i:=k0) J6 hN0 hi0 hx0 (v:=.ref D) rfl (fun s5 J7 ⟨a,sb,ha⟩=>?_) hf0);have haC:C≠a:=ha.elim (fun z=>by rw [z];exact hl) fun z=>hce _ _ z
 exact ⟨m4,hn.sameBut sb haC,fun h' sb'=>⟨_,_,tr J7 sb' hC,q⟩⟩
end
end L2
namespace ST
open PySem PySem.SetTable
noncomputable def stp(mask:Nat)(p:Probe):Probe :=
 if p.more > 0 then { p with j:=p.j+1,more:=p.more-1 } else
 { p with j:=(leap mask p.i p.perturb).1,more:=runEnd mask (leap mask p.i p.perturb).1-(leap mask p.i p.perturb).1,i:=(leap mask p.i p.perturb).1,perturb:=(leap mask p.i p.perturb).2 }
def itr(mask:Nat):Nat->Probe->Probe
 | 0,p=>p
 | n+1,p=>itr mask n (stp mask p)
noncomputable def ztA(mask i pert:Nat):Probe:={ j:=i,more:=runEnd mask i-i,i:=i,perturb:=pert,dummy:=none }
def st(mask:Nat)(h:Int)(n:Nat):Probe:=itr mask n (ztA mask (bits h % (mask+1)) (bits h))
def pos(mask:Nat)(h:Int)(n:Nat):Nat:=(st mask h n).j
noncomputable def Cut(ps:List Nat)(j c:Nat):Prop:=c<=ps.length/\(∀k x,k<c->ps[k]?=some x->x<j)/\∀k x,c<=k->ps[k]?=some x->j<=x
theorem zhg:∀(ps:List Nat) (j:Nat),ps.Pairwise (· < ·)->∃c,Cut ps j c
 | [],j,_=>⟨0,yah _,fun k x h _=>by omega,fun k x _ e=>by simp at e⟩
 | a::ps,j,h=>by
  obtain ⟨ha,hp⟩:=List.pairwise_cons.mp h
  by_cases hj:a<j
  ·obtain ⟨c,h1,h2,h3⟩:=zhg ps j hp;refine ⟨c+1,Nat.succ_le_succ h1,fun k x hk e=>?_,fun k x hk e=>?_⟩
   ·cases k with
    | zero=>simp at e;omega
    | succ k=>exact h2 k x (by omega) (by simpa using e)
   ·cases k with
    | zero=>omega
    | succ k=>exact h3 k x (by omega) (by simpa using e)
  ·refine ⟨0,ya1 _,fun k x hk _=>by omega,fun k x _ e=>?_⟩
   cases k with
   | zero=>simp at e;omega
   | succ k =>
    have:=ha x (ya8 (by simpa using e));omega
theorem zjC(hc:Cut xs.toList j c):∀(fuel lo hi:Nat),lo<=c->c<=hi->hi<=xs.size->hi-lo<=fuel->below.go xs j fuel lo hi=c
 | 0,lo,hi,h1,h2,h3,h4=>by unfold below.go;omega
 | fuel+1,lo,hi,h1,h2,h3,h4=>by
  unfold below.go
  by_cases hlt:lo<hi
  ·rw [if_pos hlt]
   have hm:(lo+hi) / 2<xs.size:=by omega
   have e:xs.toList[(lo+hi) / 2]?=some xs[(lo+hi) / 2]:=by rw [yaZ];exact yaU hm
   have eD:xs.getD ((lo+hi) / 2) j=xs[(lo+hi) / 2]:=by simp [Array.getD,hm]
   show (if xs.getD ((lo+hi) / 2) j<j then below.go xs j fuel ((lo+hi) / 2+1) hi else below.go xs j fuel lo ((lo+hi) / 2))=c;rw [eD]
   by_cases hx:xs[(lo+hi) / 2]<j
   ·rw [if_pos hx];refine zjC hc fuel _ _ ?_ h2 h3 (by omega);refine Classical.byContradiction fun z=>?_
    have:=hc.2.2 ((lo+hi) / 2) _ (by omega) e;omega
   ·rw [if_neg hx];refine zjC hc fuel _ _ h1 ?_ (by omega) (by omega);refine Classical.byContradiction fun z=>?_
    have:=hc.2.1 ((lo+hi) / 2) _ (by omega) e;omega
  ·rw [if_neg hlt];omega
theorem zdJ(hc:Cut xs.toList j c):below xs j=c:=by
 unfold below;exact zjC hc _ _ _ (ya1 _) (by have:=hc.1;simpa using this) (yah _) (by omega)
def ziv{t:SetTable}(hs:t.place.toList.Pairwise (· < ·))(hd:t.dummies=#[])(h:j ∉ t.place.toList):t.slot j=.empty:=by
 obtain ⟨c,hc⟩:=zhg t.place.toList j hs;unfold slot;rw [zdJ hc]
 have e:(t.place[c]? == some j)=false:=by
  rw [<-yaZ]
  cases q:t.place.toList[c]? with
  | none=>rfl
  | some x =>
   have:x≠j:=fun z=>h (z ▸ ya8 q)
   simpa using this
 show (if (t.place[c]? == some j)=true then Slot.live c else if has t.dummies j=true then .dummy else .empty)=.empty;rw [e,if_neg (by simp),hd]
 have:has #[] j=false:=by unfold has below;rfl
 rw [this,if_neg (by simp)]
def znW{α:Type}(xs:List α)(c:Nat)(x y:α):y∈xs.take c++x::xs.drop c↔y=x\/y∈xs:=by
 have e:y∈xs↔y∈xs.take c++xs.drop c:=by rw [ycI]
 rw [e];simp only [ybO,yan];constructor
 ·rintro (h | h | h)
  ·exact .inr (.inl h)
  ·exact .inl h
  ·exact .inr (.inr h)
 ·rintro (h | h | h)
  ·exact .inr (.inl h)
  ·exact .inl h
  ·exact .inr (.inr h)
def zb1{α:Type}(xs:Array α)(p:Nat)(x:α):(insertAt xs p x).toList=xs.toList.take p++x::xs.toList.drop p:=by
 simp [insertAt,List.extract_eq_take_drop,List.take_of_length_le]
def zpJ{t:SetTable}(hd:t.dummies=#[])(j:Nat):t.put j=({ t with place:=insertAt t.place (below t.place j) j },below t.place j):=by
 unfold put
 have:has t.dummies j=false:=by rw [hd];unfold has below;rfl
 rw [this];simp
theorem zm8(hs:ps.Pairwise (· < ·))(hc:Cut ps j c)(hj:j ∉ ps):(ps.take c++j::ps.drop c).Pairwise (· < ·):=by
 rw [List.pairwise_append,List.pairwise_cons]
 have e:(ps.take c++ps.drop c).Pairwise (· < ·):=by rw [ycI];exact hs
 rw [List.pairwise_append] at e
 have lo:∀x∈ps.take c,x<j:=fun x hx=>by
  obtain ⟨k,hk⟩:=List.getElem?_of_mem hx;rw [ycr] at hk;split at hk
  ·exact hc.2.1 k x (by assumption) hk
  ·cases hk
 have hi:∀x∈ps.drop c,j<x:=fun x hx=>by
  obtain ⟨k,hk⟩:=List.getElem?_of_mem hx;rw [ybt] at hk;have h1:=hc.2.2 (c+k) x (by omega) hk;have h2:x≠j:=fun z=>hj (z ▸ ya8 hk)
  omega
 refine ⟨e.1,⟨hi,e.2.1⟩,fun x hx y hy=>?_⟩
 rcases yan.mp hy with rfl | hy
 ·exact lo x hx
 ·have:=lo x hx;have:=hi y hy;omega
open PySem PySem.Spec PyProof.Rows
section
variable{prog:Program}{w:World}{A:Around}{E:Z5}{s:Shared}
def zuH{h:Heap}{o:Obj}(ho:h.get? a=some o)(hx:o.ExactSet)(hd:o.data=.set es ep t) :
  ∃o',(h.update a (Obj.putSet es' t')).get? a=some o'/\o'.ExactSet/\o'.data=.set es' (ep+1) t':=by
 refine ⟨{ o with data:=.set es' (ep+1) t' },?_,hx,rfl⟩;rw [yaY _ ho (by rw [putSet_of es' t' hd];rfl),putSet_of es' t' hd]
end
end ST
namespace PySem
end PySem
namespace L2
open PySem PySem.Spec PyProof.Rows
section
variable{X:Cx}{a b c:Expr}{ta tb tc:TE}{pos:Pos}
def zgr:zbg X (.builtin "isinstance") (fun xs H Q=>∃x t c k,xs=[x,.ty c]/\TyOf X.K H x t/\PySem.W.kitOne X.K t (.type c)=some k/\Q (.bl k) H):=by
 intro pins s σ H xs us Q I r h;obtain ⟨x,t,c,k,rfl,ty,e,q⟩:=h
 cases r with
 | cons r1 rr =>
  cases rr with
  | cons r2 r3 =>
   cases r3;cases (show _=Value.type c from r2);exact zjt I r1 ty e fun tk=>⟨.bl k,H,I.tok tk,rfl,q⟩
def zeq(bs:List Bool):((List.range bs.length).all fun i=>(bs[i]?).getD true)=bs.all id:=by
 rw [ycY,ybv,ybv];constructor
 ·intro h b hb;obtain ⟨i,hi,e⟩:=ycQ.mp hb;have:=h i (ycf.mpr hi);rwa [yac hi,e] at this
 ·intro h i hi;have hi':=ycf.mp hi;rw [yac hi'];exact h _ (ybk hi')
def zgs(hc:X.calm=true):zbg X (.builtin "all") (fun xs H Q=>∃(p:Addr) (bs:List Bool),xs=[.ref p]/\SqL X.K H p (bs.map V.bl)/\Q (.bl (bs.all id)) H):=by
 intro pins s σ H xs us Q I r h;obtain ⟨p,bs,rfl,hq,q⟩:=h;obtain ⟨u,rfl,rx⟩:=zce r;cases rx;obtain ⟨its,rv,pl,hz⟩:=I.list hq;have hl:=pl.isList
 have hlt:p<s.heap.objs.size:=by obtain ⟨_,e,_⟩:=hl;exact yaj e
 have hn:its.length=bs.length:=by have:=rv.length;rw [yao] at this;exact this.symm
 refine call_all_walk (yb7 hl ?_);refine ⟨s.heap.objs.size,[s.heap.objs.size,p],[s.heap.objs.size],its.toArray.size,_,_,fun i=>(bs[i]?).getD true,rfl,Walks.list (A:=X.A.in1) (I.ok.hd hc) _ p (yap hlt) its.toArray,⟨⟨_,yag _ rfl,rfl,rfl⟩,hl.push _⟩,fun i v s' Q' E' hP hQ=>?_,fun h' tk hk=>?_⟩
 ·have hv:its[i]?=some v:=by simpa using hP
  have hi:i<bs.length:=by rw [<-hn];exact (yai.mp hv).1
  obtain ⟨u,hu,ru⟩:=rv.get (i:=i) (x:=.bl bs[i]) (by rw [yaq,yac hi];rfl);rw [hv] at hu;cases hu;cases (show v=Value.bool bs[i] from ru);refine ybc ?_;have hQ':Q' ((bs[i]?).getD true) s':=hQ;rwa [yac hi] at hQ'
 ·rw [yaf,hn,zeq];refine ⟨.bl _,H,I.kept (t':=tk) fun b o e=>?_,rfl,q⟩;exact hk b o (fun hm=>by rw [yaX.mp hm] at e;exact yaL _ (yaj e)) (yad _ e)
def zgd:OpR X (compareOp .IsNot) (fun x y H Q=>∃i j,x=.bl i/\y=.bl j/\Q (.bl (!decide (i=j))) H):=by
 intro pins s σ H x y v u Q I rx ry h;obtain ⟨i,j,rfl,rfl,q⟩:=h;cases rx;cases ry;show wpAny _ _ (isSame (Value.bool i) (Value.bool j) >>= fun r=>pure (Value.bool (!r))) _ _ s;refine yaa (wpAny_isSame_plain (by rfl) (yae ?_));refine ⟨.bl (!decide (i=j)),H,I,?_,q⟩;show _=Value.bool _;congr 1
 cases i<;>cases j<;>rfl
noncomputable def zhq(a:Addr)(c:Nat)(h:Heap):Prop:=∃o es ep t,h.get? a=some o/\o.ExactSet/\o.data=.set es ep t/\t.fits es.size=true/\es.size=c
theorem zeO:zbg X (.builtin "len") (fun xs H Q=>∃a c,xs=[.ref a]/\H a=some (.ext (zhq a c))/\c<=1000/\Q (.int c) H):=by
 intro pins s σ H xs us Q I r h;obtain ⟨a,c,rfl,ha,hc,q⟩:=h;obtain ⟨u,rfl,rx⟩:=zce r;cases rx;obtain ⟨⟨o,es,ep,t,e1,e2,e3,e4,e5⟩,_⟩:=I.hok a _ ha;refine call_len_set e1 e2 e3 e4 ?_ ?_
 ·have:(es.size:Int)<=1000:=by rw [e5];omega
  exact Int.lt_of_le_of_lt this (by decide)
 ·exact ⟨.int c,H,I.tok _,⟨_,by rw [e5]⟩,q⟩
def zk0:OpR X (binaryOp .Add) (fun x y H Q=>∃(a b:Addr) (ys:List V),x=.ref a/\y=.ref b/\SqT X.K H a []/\SqT X.K H b ys/\Q (.ref b) H):=by
 intro pins s σ H x y v u Q I rx ry h;obtain ⟨a,b,ys,rfl,rfl,ha,hb,q⟩:=h;cases rx;cases ry;obtain ⟨its,r1,p1,_⟩:=I.tuple ha;obtain ⟨its2,r2,p2,_⟩:=I.tuple hb;cases r1;obtain ⟨⟨cls,dd,data,sl⟩,ho,hc,n,hd⟩:=id p1;obtain ⟨⟨cls2,dd2,data2,sl2⟩,ho2,hc2,n2,hd2⟩:=id p2;simp only at hc hd hc2 hd2;subst hc hd hc2 hd2
 exact concat_meets ⟨_,ho,rfl⟩ ⟨_,ho2,rfl⟩ noFill_tuple_add seq_tuple_add ycy ycq (yck _ _)
  (tuple_addW0 a b ([]:List Value).toArray its2.toArray n n2 dd dd2 sl sl2 (by rfl)) ⟨ho,ho2,⟨.ref b,H,I,rfl,q⟩⟩
end
end L2
namespace PySem
open PySem.Spec PyProof.Rows
theorem zb8:fillsNumberSlot (.type "tuple") "mul" = pure false :=
 fillsNumberSlot_seq (id:="tuple.__mul__") (r:=some (.builtin "tuple.__rmul__")) ycN.lookup (by decide +kernel) F.slot_tuple_rmul.lookup (by decide +kernel)
theorem zdY:seqRepeat? (.type "tuple")=pure (some (.builtin "tuple.__mul__")):=by
 have e1:=seqSlot_of (T:="tuple") (name:="__mul__") (id:="tuple.__mul__") ycN.lookup (by decide +kernel);have e2:=seqSlot_of (T:="tuple") (name:="__rmul__") (id:="tuple.__rmul__") F.slot_tuple_rmul.lookup (by decide +kernel);unfold seqRepeat?;rw [e1,e2];rfl
def zc2(a:Int)(t:Tok)(l:Addr)(o:Obj)(hc:o.cls=.type "tuple")(hdd:o.data=.seq its n) :
  Meets (Builtin.«int.__rmul__» ⟨[.int a t,.ref l],[]⟩) (fun _ R s=>s.heap.get? l=some o/\R (.ok (.ret Value.notImplemented)) s) :=
 .of_wp fun prog w A R s h=>by
  obtain ⟨c,d,dt,sl⟩:=o;simp only at hc hdd;subst hc hdd;obtain ⟨hp,g,dr,tk,os⟩:=s;obtain ⟨hl,h⟩:=h
  wp_walk
  exact ⟨_,rfl,h⟩
section
variable{prog:Program}{w:World}{A:Around}{E:Z5}{s:Shared}
theorem zeV{a:Addr}{o:Obj}{its:Array Value}{n:Nat}{k:Int}{t:Tok}{P:Fin->Shared->Prop}(ho:s.heap.get? a=some o)(hc:o.cls=.type "tuple")(hd:o.data=.seq its n)(hne:its.isEmpty=false)(h2:2<=k)(hz:(its.size:Int)*k<=1000000)(hk:k<=1000)
  (h:P (.done (.ret (.ref s.heap.objs.size))) { s with heap:=s.heap.push { cls:=.type "tuple",data:=.seq ((List.replicate k.toNat its).foldl (·++·) #[]) } }) (hsz:((List.replicate k.toNat its).foldl (·++·) #[]).size<=sizeLine) :
  wpAny (model prog w) A (Builtin.«tuple.__mul__» ⟨[.ref a,.int k t],[]⟩) P E s:=by
 show wpAny _ _ (asIndex (.int k t) >>= _) _ _ s;refine yaa ?_;unfold asIndex;refine yaa (yae ?_);dsimp only;refine yae ?_
 have e0:(decide (k < -(2 ^ 63))||decide (k ≥ 2 ^ 63))=false:=by
  rw [Bool.or_eq_false_iff];refine ⟨ya4 ?_,ya4 ?_⟩
  ·omega
  ·omega
 rw [e0];simp only [yaA,ybs];refine yaa (yc7 ho hd ?_)
 have e1:(its.isEmpty||k == 1)=false:=by rw [hne,Bool.false_or];simp;omega
 rw [e1];simp only [yaA,ybs]
 have e2:(decide (k<=0)||its.isEmpty)=false:=by rw [hne,Bool.or_false];exact ya4 (by omega)
 rw [e2];simp only [yaA,ybs];rw [if_neg (by omega)]
 have e3:Builtin.Tuple.tupleTooMany (its.size*k)=false:=by
  unfold Builtin.Tuple.tupleTooMany;refine ya4 ?_
  have:(1000000:Int)<=(sizeLine:Int):=by decide
  omega
 rw [e3];simp only [yaA,ybs];unfold Builtin.Tuple.tupleExact;exact yaa (yaK (yae h) hsz)
def zeU(ho:s.heap.get? a=some o)(hc:o.cls=.type "tuple")(hd:o.data=.seq its n)(h:P (.done (.ret (.ref a))) s) :
  wpAny (model prog w) A (Builtin.«tuple.__mul__» ⟨[.ref a,.int 1 t],[]⟩) P E s:=by
 show wpAny _ _ (asIndex (.int 1 t) >>= _) _ _ s;refine yaa ?_;unfold asIndex;refine yaa (yae ?_);dsimp only;refine yae ?_
 have e0:(decide ((1:Int) < -(2 ^ 63))||decide ((1:Int) ≥ 2 ^ 63))=false:=by decide
 rw [e0];simp only [yaA,ybs];refine yaa (yc7 ho hd ?_)
 have e1:(its.isEmpty||(1:Int) == 1)=true:=by simp
 rw [e1];simp only [ybY];unfold Builtin.Tuple.tupleIsExact;refine yaa (yaa (yb2 (T:="tuple") ⟨o,ho,hc⟩ (yae ?_)));simp only [ybw,ybY];exact yaa (yb6 (yae h))
def znT{a:Addr}{o:Obj}{its:Array Value}{n:Nat}{k:Int}{t:Tok}{Q:Z5}(ho:s.heap.get? a=some o)(hc:o.cls=.type "tuple")(hd:o.data=.seq its n)(hne:its.isEmpty=false)(h2:2<=k)(hz:(its.size:Int)*k<=1000000)(hk:k<=1000)
  (h:Q (.ref s.heap.objs.size) { s with heap:=s.heap.push { cls:=.type "tuple",data:=.seq ((List.replicate k.toNat its).foldl (·++·) #[]) } }) (hsz:((List.replicate k.toNat its).foldl (·++·) #[]).size<=sizeLine) :
  wpAny (model prog w) A (binaryOp .Mult (.ref a) (.int k t)) Q E s:=by
 have hT:s.TypeIs (.ref a) "tuple":=⟨o,ho,hc⟩
 refine ycg (T:="tuple") (U:="int") (by decide) hT (fun s'=>ycU s' k t) zb8 F.fills_int_mul yb4 zdY F.slot_int_index.lookup
  (ybW yb4 (ycU s k t) F.entry_int_rmul (ydg _ _) (zc2 k t a o hc hd) ⟨ho,rfl,hT,?_⟩)
 exact yaI ycN hT F.entry_tuple_mul (zeV ho hc hd hne h2 hz hk ⟨_,rfl,h⟩ hsz) (F.args_tuple_mul_2 _ _)
def zk6(ho:s.heap.get? a=some o)(hc:o.cls=.type "tuple")(hd:o.data=.seq its n)(h:Q (.ref a) s):wpAny (model prog w) A (binaryOp .Mult (.ref a) (.int 1 t)) Q E s:=by
 have hT:s.TypeIs (.ref a) "tuple":=⟨o,ho,hc⟩
 refine ycg (T:="tuple") (U:="int") (by decide) hT (fun s'=>ycU s' 1 t) zb8 F.fills_int_mul yb4 zdY F.slot_int_index.lookup
  (ybW yb4 (ycU s 1 t) F.entry_int_rmul (ydg _ _) (zc2 1 t a o hc hd) ⟨ho,rfl,hT,?_⟩)
 exact yaI ycN hT F.entry_tuple_mul (zeU ho hc hd ⟨_,rfl,h⟩) (F.args_tuple_mul_2 _ _)
end
end PySem
namespace L2
open PySem PySem.Spec PyProof.Rows
inductive D where
 | non | bl (b:Bool) | int (i:Int) | str (x:Str) | tup (l:List D) | lst (l:List D)
section
variable{X:Cx}
theorem znJ:OpR X (binaryOp .Mult) (fun x y H Q=>∃(p:Addr) (k:Int) (xs:List V),x=.ref p/\y=.int k/\SqT X.K H p xs/\xs≠[]/\2<=k/\k<=1000/\xs.length<=1000/\∀l,H l=none->Q (.ref l) (upd H l (.tup (List.replicate k.toNat xs).flatten))):=by
 intro pins s σ H x y v u Q I rx ry h;obtain ⟨p,k,xs,rfl,rfl,hq,hne,h2,hk,hx,q⟩:=h;cases rx;obtain ⟨t,rfl⟩:=ry;obtain ⟨its,rv,⟨o,ho,hc,n,hd⟩,_⟩:=I.tuple hq;have hl:=rv.length
 have hnew:(List.replicate k.toNat its.toArray).foldl (·++·) #[]=(List.replicate k.toNat its).flatten.toArray:=by
  have:=zdy its k.toNat [];rwa [List.nil_append] at this
 have hsz:(List.replicate k.toNat its).flatten.length<=1000000:=by
  rw [zgg];exact yas (Nat.mul_le_mul (show k.toNat<=1000 by omega) (show its.length<=1000 by omega)) (by decide)
 have hline:(1000000:Nat)<=sizeLine:=by decide
 refine znT ho hc hd ?_ h2 ?_ hk ?_ ?_
 ·have:its≠[]:=fun z=>hne (by cases xs with | nil=>rfl | cons a r=>rw [z] at hl;cases hl)
  simpa using this
 ·rw [yaf];have:=Int.mul_le_mul (show (its.length:Int)<=1000 by omega) hk (by omega) (by omega);omega
 ·rw [hnew];refine ⟨.ref s.heap.objs.size,_,I.laid (t':=s.toks) (o:=.tup (List.replicate k.toNat xs).flatten) (fun b ob q=>yad _ q) (yah _) ?_,rfl,q _ (I.hok.fresh (yah _))⟩;refine ⟨?_,_,rv.rep k.toNat,zkh.new _ _⟩;rw [zgg] at hsz ⊢;rw [<-hl] at hsz;omega
 ·rw [hnew,yaf];omega
end
end L2
namespace HT
open PySem PySem.Spec PyProof.Rows L2
section
variable{prog:Program}{w:World}{A:Around}{E:Z5}{s:Shared}
def zcR{t sl:Addr}{items:Array Value}{vl vu:Value}{lo hi:Option Int}{Q:Z5}(ht:IsTup s.heap t items)(hs:s.heap.IsSliceOf sl vl vu .none)(pl:IsPart vl lo)(pu:IsPart vu hi)
  (h1:sIx items.size 0 lo=0) (h2:sIx items.size items.size hi=items.size) (h:Q (.ref t) s):wpAny (model prog w) A (getItem (.ref t) (.ref sl)) Q E s:=by
 obtain ⟨os,hos,hcs,hds⟩:=id hs;have hTs:s.TypeIs (.ref sl) "slice":=⟨os,hos,hcs⟩;unfold getItem
 try with_reducible refine ybp ?_
 first | refine yaa (yae ?_) | skip
 refine yaa (wpAny_sequenceKey ht.typeIs (by decide) ?_)
 refine yaa (yaM (name:=Str.ofString "__getitem__") ht.typeIs yaW
  (yaI yaW ht.typeIs entry_tuple_getitem ?_ (args_tuple_getitem _ _)))
 show wpAny _ _ (Builtin.Tuple.tupleItemsOf (.ref t) >>= _) _ _ s;refine yaa (tupleItemsOf_ ht ?_);refine yaa (yb2 hTs ?_);rw [if_pos (by decide)];refine yaa (zbB hs pl pu ?_);rw [h1,h2];show wpAny _ _ (if ((((0:Nat):Int) == 0&&(1:Int) == 1&&(items.size-0) == items.size)=true) then _ else _) _ _ s;rw [if_pos (by simp)];unfold Builtin.Tuple.tupleIsExact;refine yaa (yaa (yb2 ht.typeIs (yae ?_)));simp only [ybw,ybY];refine yaa (yb6 ?_)
 first
  | exact yae ⟨_,rfl,yae h⟩
  | exact yaa (yae (yae ⟨_,rfl,yae h⟩))
end
end HT
namespace L2
open PySem PySem.Spec PyProof.Rows
def zhC:SlR X (fun x lo hi H Q=>∃(a:Addr) (xs:List V),x=.ref a/\SqT X.K H a xs/\HT.sIx xs.length 0 lo=0/\HT.sIx xs.length xs.length hi=xs.length/\Q (.ref a) H):=by
 intro pins s σ H x v vl vu lo hi sl Q I rx hs pl pu h;obtain ⟨a,xs,rfl,hx,h1,h2,q⟩:=h;cases rx;obtain ⟨its,r,ht,hz⟩:=I.tuple hx
 have hlen:its.toArray.size=xs.length:=by rw [yaf];exact r.length.symm
 refine ⟨"tuple",_,yaW.lookup,ht.typeIs,?_⟩;exact HT.zcR ht hs pl pu (by rw [hlen];exact h1) (by rw [hlen];exact h2) ⟨.ref a,H,I,rfl,q⟩
mutual
def D.py:D->PyData
 | .non=>.none
 | .bl b=>.bool b
 | .int i=>.int i
 | .str x=>.str x
 | .tup l=>.tuple (D.pys l)
 | .lst l=>.list (D.pys l)
def D.pys:List D->List PyData
 | []=>[]
 | d::l=>d.py::D.pys l
end
mutual
def D.fit:Nat->D->Bool
 | _,.non=>true
 | _,.bl _=>false
 | _,.int _=>true
 | _,.str x=>PyData.strOk x
 | 0,.tup _=>false
 | n+1,.tup l=>D.fits n l
 | 0,.lst _=>false
 | n+1,.lst l=>D.fits n l
def D.fits:Nat->List D->Bool
 | _,[]=>true
 | n,d::l=>d.fit n&&D.fits n l
end
mutual
theorem D.lay:∀{n:Nat} {d:D},d.fit n=true->d.py.canLay0=true/\d.py.depth<=n
 | _,.non,_=>⟨rfl,ya1 _⟩
 | _,.bl _,h=>by simp [D.fit] at h
 | _,.int _,_=>⟨rfl,ya1 _⟩
 | _,.str x,h=>⟨by simpa [D.fit,D.py,PyData.canLay0] using h,ya1 _⟩
 | 0,.tup _,h=>by simp [D.fit] at h
 | 0,.lst _,h=>by simp [D.fit] at h
 | n+1,.tup l,h=>by
  have h':D.fits n l=true:=by simpa [D.fit] using h
  obtain ⟨a,b⟩:=D.lays h';exact ⟨by simpa [D.py,PyData.canLay0] using a,by simp only [D.py,PyData.depth];omega⟩
 | n+1,.lst l,h=>by
  have h':D.fits n l=true:=by simpa [D.fit] using h
  obtain ⟨a,b⟩:=D.lays h';exact ⟨by simpa [D.py,PyData.canLay0] using a,by simp only [D.py,PyData.depth];omega⟩
theorem D.lays:∀{n:Nat} {l:List D},D.fits n l=true->PyData.canLayAll0 (D.pys l)=true/\PyData.depthAll (D.pys l)<=n
 | _,[],_=>⟨rfl,ya1 _⟩
 | n,d::l,h=>by
  simp only [D.fits,yab] at h;obtain ⟨a,b⟩:=D.lay h.1;obtain ⟨c,e⟩:=D.lays h.2;exact ⟨by simp [D.pys,PyData.canLayAll0,a,c],by simp only [D.pys,PyData.depthAll];omega⟩
end
section
variable{X:Cx}
def zf7(hl:d.canLay0=true)(r:Reads h v d as):SeqAt.readOf h v=d:=by
 have hx:∃d as,Reads h v d as:=⟨d,as,r⟩;unfold SeqAt.readOf;rw [dif_pos hx];obtain ⟨bs,rb⟩:=hx.choose_spec;exact (SeqAt.Reads.unique _ _ _ _ _ hl r rb).symm
end
noncomputable def zhI:Option Int->Value->Bool
 | none,.none=>true
 | some i,v=>Value.isInt i v
 | _,_=>false
theorem zaC:∀{k:Option Int} {v:Value},zhI k v=true->(k=none/\v=.none)\/∃i t,k=some i/\v=.int i t
 | none,v,h=>by
  cases v<;>simp [zhI] at h
  exact .inl ⟨rfl,rfl⟩
 | some i,v,h=>by
  obtain ⟨t,e⟩:=ydd (k:=i) (v:=v) (by simpa [zhI] using h);exact .inr ⟨i,t,rfl,e⟩
noncomputable def zgX:Int:=reduceHash 0xFCA86420
def zjz{prog:Program}{w:World}{A:Around}{E:Z5}{s:Shared}{Q:Int->Shared->Prop}(h:Q zgX { s with toks:=s.toks+1 }):wpAny (model prog w) A (pyHash .none) Q E s :=
 PySem.W.pyHash_slot (T:="NoneType") rfl F.slot_NoneType_hash F.entry_NoneType_hash (F.args_NoneType_hash_1 _) (beq_builtin_none _) (.inl rfl) (yaa (yae (yaa (wpAny_mkInt (yae ⟨_,_,rfl,h⟩)))))
def zbl(prog:Program)(w:World):KeyKind prog w (Option Int) where
 is:=zhI
 hash:=fun k=>match k with | none=>zgX | some i=>hashInt i
 inj:=fun v a b ha hb=>by
  rcases zaC ha with ⟨rfl,rfl⟩ | ⟨i,t,rfl,rfl⟩<;>rcases zaC hb with ⟨rfl,e⟩ | ⟨j,u,rfl,e⟩<;>cases e<;>rfl
 byValue:=fun k v h=>by
  rcases zaC h with ⟨rfl,rfl⟩ | ⟨i,t,rfl,rfl⟩<;>rfl
 pyHash:=fun {A E s k v Q} h hq=>by
  rcases zaC h with ⟨rfl,rfl⟩ | ⟨i,t,rfl,rfl⟩
  ·exact zjz hq
  ·exact wpAny_pyHash_int hq
 eqBool:=fun {A E s a b u v Q} ha hb hq=>by
  rcases zaC ha with ⟨rfl,rfl⟩ | ⟨i,t,rfl,rfl⟩<;>rcases zaC hb with ⟨rfl,rfl⟩ | ⟨j,u,rfl,rfl⟩
  ·unfold PySem.eqBool;refine ybp ?_;refine ycs (fun _=>yaa (yb6 (yae (by simpa using hq)))) (fun z=>absurd rfl z)
  ·exact SeqAt.EqAt.none_int j u prog w E Q (by simpa using hq)
  ·exact SeqAt.EqAt.int_none i t prog w E Q (by simpa using hq)
  ·refine SeqAt.EqAt.int_int i t j u prog w E Q ?_
   have e:decide (some i=some j)=(i == j):=by
    rw [ycY];simp
   rw [<-e];exact hq
 «strs»:=fun k x t v h=>by
  rcases zaC h with ⟨_,e⟩ | ⟨i,u,_,e⟩<;>cases e
noncomputable abbrev NK:=Int×List (Option Int)
noncomputable def zcM:Option Int->PyData | none=>.none | some i=>.int i
noncomputable def zcF(prog:Program)(w:World)(h:Heap)(k:NK)(a:Addr):Prop:=∃o items n t b,h.get? a=some o/\o.cls=.type "tuple" /\ o.data=.seq items n/\items.toList=[.int k.1 t,.ref b]/\IsTupleKey (zbl prog w) h k.2 b
section
variable{prog:Program}{w:World}{A:Around}{E:Z5}{s:Shared}
def zk5(prog:Program)(w:World)(k:NK):Int:=reduceHash (Builtin.Tuple.tupleHashOf [hashInt k.1,tupleKeyHash (zbl prog w) k.2])
def zcF.typeIs(x:zcF prog w s.heap k a):s.TypeIs (.ref a) "tuple":=let ⟨o,_,_,_,_,ho,hc,_⟩:=x;⟨o,ho,hc⟩
theorem zci:∀{l:Z4} {vs:List Value},ItemsAre (zbl prog w) l vs->ReadsAll h vs (l.map zcM) []
 | _,_,.nil=>.nil
 | _,_,.cons h1 r=>by
  rcases zaC h1 with ⟨rfl,rfl⟩ | ⟨i,t,rfl,rfl⟩
  ·exact .cons (as:=[]) (bs:=[]) .none (zci r)
  ·exact .cons (as:=[]) (bs:=[]) (.int i t) (zci r)
def zcF.reads(x:zcF prog w h k a):Reads h (.ref a) (.tuple [.int k.1,.tuple (k.2.map zcM)]) []:=by
 obtain ⟨o,items,n,t,b,ho,hc,hd,hi,ob,its,m,hob,hcb,hdb,hib⟩:=x;refine .tuple ho hc hd ?_;rw [hi];exact .cons (as:=[]) (bs:=[]) (.int _ _) (.cons (as:=[]) (bs:=[]) (.tuple hob hcb hdb (zci hib)) .nil)
theorem zfd:∀{l m:Z4},PyData.eqvAll (l.map zcM) (m.map zcM)=decide (l=m)
 | [],[]=>by simp [PyData.eqvAll]
 | [],_::_=>by simp [PyData.eqvAll]
 | _::_,[]=>by simp [PyData.eqvAll]
 | x::l,y::m=>by
  have ih:=zfd (l:=l) (m:=m);simp only [yaR,PyData.eqvAll,ih]
  cases x<;>cases y<;>simp [zcM,PyData.eqv]
  rw [ycY];simp
theorem zdd:∀{l:Z4},PyData.canLayAll0 (l.map zcM)=true/\PyData.depthAll (l.map zcM)=0
 | []=>⟨rfl,rfl⟩
 | x::l=>by
  obtain ⟨a,b⟩:=zdd (l:=l)
  cases x<;>simp [zcM,PyData.canLayAll0,PyData.depthAll,PyData.canLay0,PyData.depth,a,b]
def zct(prog:Program)(w:World):HeapKind prog w NK where
 is:=zcF prog w
 hash:=zk5 prog w
 draws:=fun k=>1+(k.2.length+1)+1
 room:=fun A=>A.units+8<cLine
 inj:=fun {h a x y} hx hy=>by
  obtain ⟨o,items,n,t,b,ho,hc,hd,hi,kx⟩:=hx;obtain ⟨o',items',n',t',b',ho',hc',hd',hi',ky⟩:=hy;rw [ho] at ho';cases ho';rw [hd] at hd';cases hd';rw [hi] at hi';simp only [List.cons.injEq,Value.int.injEq,Value.ref.injEq,and_true] at hi';obtain ⟨⟨e1,_⟩,e2⟩:=hi';subst e2;exact Prod.ext e1 (kx.inj ky)
 keeps:=fun {h h' k a d o es ep} x ho hd hs=>by
  obtain ⟨o1,items,n,t,b,ho1,hc,hd1,hi,kx⟩:=x;refine ⟨o1,items,n,t,b,(hs.2 a ?_).trans ho1,hc,hd1,hi,kx.keeps ho hd hs⟩;rintro rfl;rw [ho] at ho1;cases ho1;rw [hd] at hd1;cases hd1
 pyHash:=fun {A E s k a Q} hu x hq=>by
  have hT:=zcF.typeIs (prog:=prog) (w:=w) x;obtain ⟨o,items,n,t,b,ho,hc,hd,hi,kx⟩:=x;refine PySem.W.pyHash_slot (T:="tuple") hT F.slot_tuple_hash F.entry_tuple_hash (F.args_tuple_hash_1 _) (beq_builtin_none _) (.inr (by omega)) ?_;show wpAny _ _ (Builtin.Tuple.tupleItemsOf (.ref a) >>= _) _ _ s;refine yaa (yc7 ho hd ?_);refine yaa ?_;rw [<-yc8,hi];refine ycO _ (fun za9 (r:Array Int) s'=>(za9=[.int k.1 t,.ref b]/\r.toList=[]/\s'=s)\/(za9=[.ref b]/\r.toList=[hashInt k.1]/\s'={ s with toks:=s.toks+1 })\/(za9=[]/\r.toList=[hashInt k.1,tupleKeyHash (zbl prog w) k.2]/\s'={ s with toks:=s.toks+1+(k.2.length+1) })) _ ?_ ?_ _ _ (.inl ⟨rfl,rfl,rfl⟩)
  ·rintro x za9 r s' (⟨e,hr,rfl⟩ | ⟨e,hr,rfl⟩ | ⟨e,hr,rfl⟩)
   ·injection e with e1 e2
    subst e1 e2;refine yaa (wpAny_pyHash_int ?_)
    first
     | exact yae (.inr (.inl ⟨rfl,by simp [hr],rfl⟩))
     | exact yaa (yae (yae (.inr (.inl ⟨rfl,by simp [hr],rfl⟩))))
   ·injection e with e1 e2
    subst e1 e2;refine yaa (wpAny_pyHash_tuple (A:=A.in1) (by show A.units+1<cLine;omega) kx ?_)
    first
     | exact yae (.inr (.inr ⟨rfl,by simp [hr],rfl⟩))
     | exact yaa (yae (yae (.inr (.inr ⟨rfl,by simp [hr],rfl⟩))))
   ·cases e
  ·rintro r s' (⟨e,_⟩ | ⟨e,_⟩ | ⟨_,hr,rfl⟩)
   ·cases e
   ·cases e
   ·show wpAny _ _ (retInt (Builtin.Tuple.tupleHashOf r.toList)) _ _ _;rw [hr];refine yaa (wpAny_mkInt (yae ⟨_,_,rfl,?_⟩))
    have e:s.toks+1+(k.2.length+1)+1=s.toks+(1+(k.2.length+1)+1):=by omega
    show Q _ { s with toks:=s.toks+1+(k.2.length+1)+1 };rw [e];exact hq
 eqBool:=fun {A E s x y a b Q} hu hx hy hq=>by
  refine SeqAt.eqAt_reads _ _ A s (.ref a) (.ref b) [] [] hx.reads hy.reads ?_ ?_ ?_ prog w E Q ?_
  ·simp [PyData.canLay0,PyData.canLayAll0,zdd.1]
  ·simp [PyData.canLay0,PyData.canLayAll0,zdd.1]
  ·have h1:(PyData.tuple [.int x.1,.tuple (x.2.map zcM)]).depth<=3:=by
    simp [PyData.depth,PyData.depthAll,zdd.2]
   have:min (PyData.tuple [.int x.1,.tuple (x.2.map zcM)]).depth (PyData.tuple [.int y.1,.tuple (y.2.map zcM)]).depth<=3:=yas (Nat.min_le_left _ _) h1;omega
  ·have e:(PyData.tuple [.int x.1,.tuple (x.2.map zcM)]).eqv (.tuple [.int y.1,.tuple (y.2.map zcM)])=decide (x=y):=by
    simp only [PyData.eqv,PyData.eqvAll,zfd];rw [ycY];simp [Prod.ext_iff]
   rw [e];exact hq
 quiet:=fun {A E s k a Q} x hq=>by
  have hT:=zcF.typeIs (prog:=prog) (w:=w) x;obtain ⟨o,items,n,t,b,ho,hc,hd,hi,kx⟩:=x;have hTb:=kx.typeIs;obtain ⟨ob,its,m,hob,hcb,hdb,hib⟩:=kx
  have low:wpAny (model prog w) A (eqIsQuiet 7 (.ref b)) (fun r s'=>r=true/\s'=s) E s:=by
   unfold eqIsQuiet;refine yaa (ybH hTb F.slot_tuple_eq.lookup ?_);show wpAny _ _ (isInstance (.ref b) (.type "tuple") >>= _) _ _ s;refine yaa (ybl hTb isSubtype_tuple_tuple ?_);simp only [yb8,yaA,ybs];refine yaa (ybC hob hdb (yaa ?_));show wpAny _ _ (forIn its _ _) _ _ s;rw [<-yc8];refine ycO _ (fun za9 r s'=>r.1=none/\s'=s/\∀v∈za9,carriedByValue v=true) _ ?_ ?_ _ _ ⟨rfl,rfl,hib.byValue⟩
   ·rintro v za9 r s' ⟨hr,rfl,hall⟩;rw [eqIsQuiet_byValue _ (hall v yaE)];refine yaa (yae ?_);simp only [yb8,yaA,ybs];exact yae ⟨rfl,rfl,fun z hz=>hall z (yar _ hz)⟩
   ·rintro ⟨r1,r2⟩ s' ⟨hr,rfl,_⟩;simp only at hr;subst hr;exact yae ⟨rfl,rfl⟩
  unfold eqIsQuiet;refine yaa (ybH hT F.slot_tuple_eq.lookup ?_);show wpAny _ _ (isInstance (.ref a) (.type "tuple") >>= _) _ _ s;refine yaa (ybl hT isSubtype_tuple_tuple ?_);simp only [yb8,yaA,ybs];refine yaa (ybC ho hd (yaa ?_));show wpAny _ _ (forIn items _ _) _ _ s;rw [<-yc8,hi];refine ycO _ (fun za9 r s'=>r.1=none/\s'=s/\(za9=[.int k.1 t,.ref b]\/za9=[.ref b]\/za9=[])) _ ?_ ?_ _ _ ⟨rfl,rfl,.inl rfl⟩
  ·rintro v za9 r s' ⟨hr,rfl,(e | e | e)⟩
   ·injection e with e1 e2
    subst e1 e2;rw [eqIsQuiet_byValue _ rfl];refine yaa (yae ?_);simp only [yb8,yaA,ybs];exact yae ⟨rfl,rfl,by simp⟩
   ·injection e with e1 e2
    subst e1 e2;refine yaa (ybb low (fun r' s'' hz=>?_) fun _ _ z=>z);obtain ⟨rfl,rfl⟩:=hz;simp only [yb8,yaA,ybs];exact yae ⟨rfl,rfl,by simp⟩
   ·cases e
  ·rintro ⟨r1,r2⟩ s' ⟨hr,rfl,_⟩;simp only at hr;subst hr;exact yae hq
end
noncomputable def oV:Option Int->V | none=>.non | some i=>.int i
noncomputable def DN(P:Program)(w:World)(a:Addr)(xs:List (NK×Addr×Value))(h:Heap):Prop :=
 ∃o es ep,h.get? a=some o/\o.ExactDict/\o.data=.dict es ep/\es.toList=xs.map (entryOfKey (zct P w))/\(xs.map (·.1)).Nodup/\(a == sysModules)=false
noncomputable def zgv(H:Hp)(kb:Addr)(k:NK):Prop:=∃b,H kb=some (.tup [.int k.1,.ref b])/\H b=some (.tup (k.2.map oV))
noncomputable def zlU(H:Hp)(xs:List (NK×Addr×Value))(m:List (NK×V)):Prop:=Paired (fun (x:NK×Addr×Value) (p:NK×V)=>x.1=p.1/\zgv H x.2.1 x.1/\zaI p.2 x.2.2) xs m
def zhf:∀h1 h2:Heap,DN P w a xs h1->(∀o,h1.get? a=some o->h2.get? a=some o)->DN P w a xs h2:=fun h1 h2 ⟨o,es,ep,e,r⟩ k=>⟨o,es,ep,k _ e,r⟩
section
variable{X:Cx}{pins:Z3}{σ:St}{H:Hp}{s:Shared}
theorem zde:∀{l:Z4} {its:List Value},Vals (l.map oV) its->ItemsAre (zbl X.prog X.w) l its
 | [],_,.nil=>.nil
 | none::l,_,.cons r t=>by
  cases r;exact .cons rfl (zde t)
 | some i::l,_,.cons r t=>by
  obtain ⟨u,rfl⟩:=r;exact .cons (by simp [zbl,zhI,Value.isInt]) (zde t)
def Inv.nest(I:Inv X pins σ H s)(h:zgv H kb k):zcF X.prog X.w s.heap k kb:=by
 obtain ⟨b,h1,h2⟩:=h;obtain ⟨its,rv,⟨o,ho,hc,n,hd⟩,_⟩:=I.tuple (SqT.of (K:=X.K) h1);obtain ⟨its2,rv2,⟨o2,ho2,hc2,n2,hd2⟩,_⟩:=I.tuple (SqT.of (K:=X.K) h2)
 cases rv with
 | cons r1 rr =>
  cases rr with
  | cons r2 rr =>
   cases rr;obtain ⟨t,rfl⟩:=r1;cases r2;exact ⟨o,_,n,t,b,ho,hc,hd,rfl,o2,_,n2,ho2,hc2,hd2,by simpa using zde rv2⟩
def zlU.keys(I:Inv X pins σ H s):zlU H xs m->∀x∈xs,zcF X.prog X.w s.heap x.1 x.2.1:=by
 intro h
 induction h with
 | nil=>intro x hx;simp at hx
 | cons h t ih =>
  intro x hx
  rcases yan.mp hx with rfl | hx
  ·exact I.nest h.2.1
  ·exact ih x hx
def Inv.ndict(I:Inv X pins σ H s)(h:H a=some (.ext (DN X.prog X.w a xs)))(e:zlU H xs m):s.heap.DictOfH (zct X.prog X.w) a xs/\(a == sysModules)=false:=by
 obtain ⟨⟨o,es,ep,h1,h2,h3,h4,h5,h6⟩,_⟩:=I.hok a _ h;exact ⟨⟨o,es,ep,h1,h2,h3,h4,e.keys I,h5⟩,h6⟩
def zcU(e:zlU H xs m)(k:NK):(m.lookup k=none/\atKey xs k=none)\/∃c p,m.lookup k=some c/\atKey xs k=some p/\zaI c p.2:=by
 induction e with
 | nil=>exact .inl ⟨rfl,rfl⟩
 | @cons x p l1 l2 h t ih =>
  obtain ⟨h1,h2,h3⟩:=h
  by_cases hk:x.1=k
  ·refine .inr ⟨p.2,x.2,?_,?_,h3⟩
   ·obtain ⟨pk,pc⟩:=p;simp only at h1;subst h1;rw [yaw,hk];simp
   ·simp [atKey,hk]
  ·have hk':¬ p.1=k:=by rw [<-h1];exact hk
   have e1:List.lookup k (p::l2)=List.lookup k l2:=by
    obtain ⟨pk,pc⟩:=p;rw [yaw]
    have:(k == pk)=false:=by
     rw [ya0];exact fun z=>hk' z.symm
    rw [this]
   have e2:atKey (x::l1) k=atKey l1 k:=by simp [atKey,yct,hk]
   rw [e1,e2];exact ih
theorem zmg(hu:X.A.units+16<cLine):OpR X (compareOp .NotIn) (fun x y H Q=>∃kb a k xs m,x=.ref kb/\y=.ref a/\zgv H kb k/\H a=some (.ext (DN X.prog X.w a xs))/\zlU H xs m/\Q (.bl (m.lookup k).isNone) H):=by
 intro pins s σ H x y v u Q I rx ry h;obtain ⟨kb,a,k,xs,m,rfl,rfl,hk,hx,he,q⟩:=h;cases rx;cases ry;obtain ⟨hm,hd⟩:=I.ndict hx he;refine wpAny_notIn_heap (knd:=zct X.prog X.w) (k:=k) (by show X.A.units+1+8<cLine;omega) (I.nest hk) hd hm ⟨.bl _,H,I.tok _,?_,q⟩
 rcases zcU he k with ⟨e1,e2⟩ | ⟨c,p,e1,e2,_⟩<;>rw [e1,e2]<;>rfl
def zqG(hu:X.A.units+16<cLine):IxR X (fun x y H Q=>∃a kb k xs m c,x=.ref a/\y=.ref kb/\zgv H kb k/\H a=some (.ext (DN X.prog X.w a xs))/\zlU H xs m/\m.lookup k=some c/\Q c H):=by
 intro value slice pins s σ H x y v u Q I rx ry h hs;obtain ⟨a,kb,k,xs,m,c,rfl,rfl,hk,hx,he,hl,q⟩:=h;cases rx;cases ry;obtain ⟨hm,hd⟩:=I.ndict hx he
 rcases zcU he k with ⟨e1,_⟩ | ⟨c',p,e1,e2,r⟩
 ·rw [e1] at hl;cases hl
 ·rw [e1] at hl;cases hl;exact ycz (x:=p.2) hm.typeIs slot_dict_getitem.lookup (wpAny_getItem_heap (knd:=zct X.prog X.w) (k:=k) (by show X.A.units+1+8<cLine;omega) (I.nest hk) hm e2 ⟨rfl,c,H,I.tok _,r,q⟩) hs
theorem znh(hu:X.A.units+16<cLine):zr3 X (fun o i v H Q=>∃a kb k xs m,o=.ref a/\i=.ref kb/\zgv H kb k/\H a=some (.ext (DN X.prog X.w a xs))/\zlU H xs m/\m.lookup k=none/\m.length<=1000000/\∀u,zaI v u->Q (upd H a (.ext (DN X.prog X.w a (xs++[(k,kb,u)]))))):=by
 intro pins s σ H o i v ov iv u Q I ro ri rv h;obtain ⟨a,kb,k,xs,m,rfl,rfl,hk,hx,he,hl,hz,q⟩:=h;cases ro;cases ri;obtain ⟨hm,hd⟩:=I.ndict hx he;have hlen:xs.length=m.length:=Paired.length he
 have e2:atKey xs k=none:=by
  rcases zcU he k with ⟨_,e2⟩ | ⟨c',p,e1,_,_⟩
  ·exact e2
  ·rw [e1] at hl;cases hl
 refine wpAny_setItem_heap (knd:=zct X.prog X.w) (k:=k) (by show X.A.units+1+8<cLine;omega) (I.nest hk) hm (fun h' hm' sb=>?_) (by rw [hlen];exact yas hz (by decide));rw [storedH_new e2] at hm';obtain ⟨o,es,ep,g1,g2,g3,g4,g5,g6⟩:=hm';have dn:DN X.prog X.w a (xs++[(k,kb,u)]) h':=⟨o,es,ep,g1,g2,g3,g4,g6,hd⟩;refine ⟨upd H a (.ext (DN X.prog X.w a (xs++[(k,kb,u)]))),?_,q u rv⟩;exact I.write (x:=a) (e:=a) (by rw [hx];trivial) (.inl rfl) (fun b o hb z=>(sb.2 b hb).trans z) ⟨_,g1⟩ ⟨dn,⟨_,g1⟩,zhf⟩
noncomputable def zsm(P:Program)(w:World):TE:=fun _ H Q=>∀p,H p=none->Q (.ref p) (upd H p (.ext (DN P w p [])))
def znH:PE X (.Dict [] [] pos) (zsm X.prog X.w):=fun pins s σ H Q I h=>by
 have big:sysModules<s.heap.objs.size:=Nat.lt_trans (show sysModules<mainGlobals by decide) (I.mod.glob.keeps I.bk).lt;have hne:(s.heap.objs.size == sysModules)=false:=ya0.mpr (Ne.symm (yap big));have dn:DN X.prog X.w s.heap.objs.size [] (s.heap.push { cls:=.type "dict",data:=.dict #[] }):=⟨_,#[],0,yag _ rfl,⟨rfl,rfl,rfl⟩,rfl,rfl,List.nodup_nil,hne⟩;refine wpAny_Dict_empty ⟨.ref s.heap.objs.size,upd H s.heap.objs.size (.ext (DN X.prog X.w s.heap.objs.size [])),?_,rfl,h _ (I.hok.fresh (yah _))⟩;exact I.laid (a:=s.heap.objs.size) (t':=s.toks) (fun _ _ q=>yad _ q) (yah _) ⟨dn,⟨_,yag _ rfl⟩,zhf⟩
end
section
variable{X:Cx}{pins:Z3}{σ:St}{H:Hp}{s:Shared}{a:Addr}{y v:V}{u r:Value}{o:Option V}{A:Around}{E:Z5}
def Inv.big(I:Inv X pins σ H s):sysModules<s.heap.objs.size:=by
 have h:mainGlobals<s.heap.objs.size:=(I.mod.glob.keeps I.bk).lt;exact Nat.lt_trans (by decide) h
end
structure M2(X:Cx)(o:Expr)(m:Str)(apos:Pos)(e f:Expr)(cpos:Pos):Prop where
 base:attributeBase o m X.env (eval o X.env)=eval o X.env
 few:((backTo cpos (starEach [e,f] X.env)).all (fun x=>!x.1)&&(backToKw cpos (keywordEach [] X.env)).all (fun x=>x.1.isSome)
  && decide (([e,f]:List Expr).length+([]:List Keyword).length+(if ([]:List Keyword).isEmpty then 0 else 1)<30))=true
 line:(apos.endLine == cpos.line)=true
 trees:backTo cpos (starEach [e,f] X.env)=[(false,eval e X.env),(false,eval f X.env)]
noncomputable abbrev PA2:=(Int×Int)×Addr
noncomputable def kP(p:Int×Int):List Key:=[.inl p.1,.inl p.2]
def xsP(xs:List PA2):List (List Key×Addr×Value):=xs.map fun x=>(kP x.1,x.2,.bool true)
noncomputable def DP(P:Program)(w:World)(a:Addr)(xs:List PA2)(h:Heap):Prop :=
 ∃o es ep,h.get? a=some o/\o.ExactDict/\o.data=.dict es ep/\es.toList=(xsP xs).map (entryOfKey (tupleKind (zgf P w)))/\((xsP xs).map (·.1)).Nodup/\(a == sysModules)=false
noncomputable def DO(P:Program)(w:World)(a:Addr)(ps:List (Option Int×Int))(h:Heap):Prop:=∃vs,h.DictOf (zbl P w) a vs/\Paired (fun (v:Option Int×Value) (p:Option Int×Int)=>v.1=p.1/\∃t,v.2=.int p.2 t) vs ps/\(a == sysModules)=false
def zhe:∀h1 h2:Heap,DO P w a ps h1->(∀o,h1.get? a=some o->h2.get? a=some o)->DO P w a ps h2:=fun h1 h2 ⟨vs,⟨o,es,ep,e,r⟩,q⟩ k=>⟨vs,⟨o,es,ep,k _ e,r⟩,q⟩
noncomputable def zfB(CX:CXT)(P:Program)(w:World)(K:PySem.W.Frag)(mg:Z6)(base:Heap)(N:List Str)(qual:Str)(scope:Scope)(f:Addr)(cd:Value)(clos:List (Str×Addr))(A:Around)(outer:List Env)(s:Shared)(H:Hp)(E:XK):Cx where
 prog:=P
 w:=w
 K:=K
 mg:=mg
 base:=base
 A:=A.deeper (PySem.W.envX qual scope s.heap.objs.size f cd clos)
 N:=N
 s₀:=s
 H₀:=H
 env:=PySem.W.envX qual scope s.heap.objs.size f cd clos
 outer:=outer
 stack:=PySem.W.envX qual scope s.heap.objs.size f cd clos::outer
 ex:=[]
 calm:=true
 fn:=fun _=>false
 pn:=[]
 xe:=fun e s'=>wpAny (model P w) (A.deeper (PySem.W.envX qual scope s.heap.objs.size f cd clos)) (leaving (PySem.W.envX qual scope s.heap.objs.size f cd clos) e) (fun _ s''=>CX outer H s E e s'') (fun e' s''=>CX outer H s E e' s'') s'
structure LamSc(N:List Str)(sc:Scope):Prop where
 kind:sc.kind=.function
 co:sc.isCoroutine=false
 gen:sc.isGenerator=false
 nocell:∀y∈sc.names,y.2≠.cell
 free:∀x∈N,sc.names.lookup x=some .free
structure LamAt(h:Heap)(H:Hp)(f:Addr)(params:Arguments)(qual:Str)(body:Expr)(sc:Scope)(N:List Str)(vs:List V)(clos:List (Str×Addr))(c:Addr)(pm ctv:Value):Prop where
 fn:h.get? f=some (PySem.W.kla_obj "<lambda>" qual params body sc clos pm c ctv)
 code:h.CodeRec (.ref c) qual
 inj:∀x y a,clos.lookup x=some a->clos.lookup y=some a->x=y
 has:∀x,sc.names.lookup x=some .free->∃a,clos.lookup x=some a
 cell:∀x a,clos.lookup x=some a->H a=none/\∃v,h.IsCell a v
 val:∀(i:Nat) (x:Str) (v:V),N[i]?=some x->vs[i]?=some v->∃u a,zaI v u/\clos.lookup x=some a/\h.IsCell a (some u)
 len:vs.length=N.length
def LamAt.keep{h h':Heap}{H H':Hp}{f:Addr}{params:Arguments}{qual:Str}{body:Expr}{sc:Scope}{N:List Str}{vs:List V}{clos:List (Str×Addr)}{c:Addr}{pm ctv:Value}
  (L:LamAt h H f params qual body sc N vs clos c pm ctv) (kf:∀o,h.get? f=some o->h'.get? f=some o) (kc:∀o,h.get? c=some o->h'.get? c=some o) (k:∀x a o,clos.lookup x=some a->h.get? a=some o->h'.get? a=some o/\H' a=none):LamAt h' H' f params qual body sc N vs clos c pm ctv:=by
 obtain ⟨f1,⟨c',oc,us,t,ec,c1,c2⟩,i,hs,ce,vl,ln⟩:=L;cases ec;refine ⟨kf _ f1,⟨_,oc,us,t,rfl,kc _ c1,c2⟩,i,hs,fun x a e=>?_,fun j x v e1 e2=>?_,ln⟩
 ·obtain ⟨h1,v,o,h3,h4⟩:=ce x a e;exact ⟨(k _ _ _ e h3).2,v,o,(k _ _ _ e h3).1,h4⟩
 ·obtain ⟨u,a,r,e,o,h3,h4⟩:=vl j x v e1 e2;exact ⟨u,a,r,e,o,(k _ _ _ e h3).1,h4⟩
def zjm{CX:CXT}{P:Program}{w:World}{K:PySem.W.Frag}{mg:Z6}{base:Heap}{N:List Str}{qual:Str}{params:Arguments}{body:Expr}{sc:Scope}{f c:Addr}{clos:List (Str×Addr)}{A:Around}{outer:List Env}{s:Shared}{h1:Heap}{tk:Nat}{H:Hp}{E:XK}{vs:List V}{pm ctv:Value}
  (S:LamSc N sc) (hd:A.handled=none) (e0:Env0 P w K mg base A outer s H) (L:LamAt s.heap H f params qual body sc N vs clos c pm ctv) (hn:h1.Ns s.heap.objs.size (fun _=>none)) (hk:∀b o,s.heap.get? b=some o->h1.get? b=some o) :
  Inv (zfB CX P w K mg base N qual sc f (.ref c) clos A outer s H E) [] (vs.map some) H { s with heap:=h1,toks:=tk }:=by
 have noA:∀b:Addr,b ∉ (zfB CX P w K mg base N qual sc f (.ref c) clos A outer s H E).ex:=fun b z=>absurd (show b∈([]:List Addr) from z) (by simp)
 refine ⟨⟨e0.mod,S.kind,rfl,rfl,yah _,fun y z a h1 h2=>L.inj y z a h1 h2,fun y hy=>?_,(fun y a h _=>by cases h),fun _=>hd,Around.frames_deeper e0.frames,.inr ⟨rfl,rfl⟩,fun b z=>absurd z (noA b),e0.bs,e0.bsz,fun b _ _=>noA b,fun b z=>absurd z (noA b),e0.funs,e0.frf⟩,
  rfl,e0.bare,Un.kept hk,⟨_,hn,fun i y v h1 h2 h3=>?_⟩,fun y a h=>?_,e0.hok.fresh (yah _),fun y a h=>(L.cell y a h).1,fun p hp=>absurd (show p∈([]:Z3) from hp) (by simp),e0.hok.kept hk,?_⟩
 ·rcases (hy:sc.names.lookup y=some .cell\/sc.names.lookup y=some .free) with hy | hy
  ·exact absurd rfl (S.nocell _ (yax hy))
  ·exact L.has y hy
 ·rw [yaq] at h2
  cases e:vs[i]? with
  | none=>rw [e] at h2;cases h2
  | some x =>
   rw [e] at h2;cases h2;obtain ⟨u,a,r,e1,o,h3,h4⟩:=L.val i y v h1 e;exact ⟨u,r,.inr ⟨.inr (S.free y (ya8 h1)),a,e1,o,hk _ _ h3,h4⟩⟩
 ·obtain ⟨_,v,o,h3,h4⟩:=L.cell y a h;exact ⟨v,o,hk _ _ h3,h4⟩
 ·show (vs.map some).length=N.length;rw [yao,L.len]
def znZ{CX:CXT}{P:Program}{w:World}{K:PySem.W.Frag}{mg:Z6}{base:Heap}{k:Nat}{N:List Str}{qual:Str}{params:Arguments}{body:Expr}{sc:Scope}{f c:Addr}{clos:List (Str×Addr)}{A:Around}{outer:List Env}{s:Shared}{H:Hp}{E:XK}{Q:VK}{vs:List V}{pm ctv:Value}{te:TE}
  (S:LamSc N sc) (hr:Room (k+1) A) (e0:Env0 P w K mg base A outer s H) (L:LamAt s.heap H f params qual body sc N vs clos c pm ctv) (hb:bindArgs (PySem.W.kla_fn "<lambda>" qual params body sc clos pm (.ref c) ctv) ⟨[],[]⟩=pure [])
  (hp:Room k (A.deeper (PySem.W.envX qual sc s.heap.objs.size f (.ref c) clos))->PE (zfB CX P w K mg base N qual sc f (.ref c) clos A outer s H E) body te) (hq:te (vs.map some) H Q) :
  codeAny (model P w) A (.call (.ref f) ⟨[],[]⟩) (CR CX outer P w H s Q E) s:=by
 have lim:s.heap.NoLimit:=e0.mod.nolimit.keeps fun b o e=>(e0.bs b o e).1
 refine PySem.W.kla_callFunE hr.depth L.fn rfl S.co S.gen rfl L.code ?_;rw [hb];refine yae (wpAny_newFunctionEnv S.nocell (fun _ z=>by cases z) (fun h₁ hns hsb=>⟨lim.fresh _ hsb,?_⟩) S.kind);have hk:∀b o,s.heap.get? b=some o->h₁.get? b=some o:=fun b o e=>hsb.extBut b o (yap (yaj e)) (yad _ e)
 show codeAny _ _ (.expr body (PySem.W.envX qual sc s.heap.objs.size f (.ref c) clos)) _ _;have I:=zjm (CX:=CX) (E:=E) (tk:=s.toks+0) S hr.hd e0 L hns hk;refine PySem.W.kla_codeExpr (ybb (hp (hr.deeper _) [] _ _ H Q I hq) (fun u s' ⟨v,H',J,rv,q⟩=>?_) fun e s' hs=>hs);exact ⟨v,H',J.os,J.bare,J.base,J.hok,rv,q⟩
section
variable{X:Cx}{CX:CXT}{k:Nat}{N:List Str}{qual x:Str}{params:Arguments}{body:Expr}{sc:Scope}{f c:Addr}{clos:List (Str×Addr)}{E:XK}{vs:List V}{pm ctv:Value}{of oc:Obj}{uf uc:HO}{te:TE}{p pos:Pos}{i:Nat}
def Inv.lamAt{pins:Z3}{σ:St}{H:Hp}{s:Shared}(I:Inv X pins σ H s)(L:LamAt X.s₀.heap X.H₀ f params qual body sc N vs clos c pm ctv)(hf:X.H₀ f=some (.frz of uf))(hc:X.H₀ c=some (.frz oc uc))(h0:HOk X.prog X.w X.H₀ X.s₀.heap)
  (hx:∀x a,clos.lookup x=some a->a ∉ X.fs/\a ∉ X.ex):LamAt s.heap H f params qual body sc N vs clos c pm ctv:=by
 have fz:∀b ob u,X.H₀ b=some (.frz ob u)->∀o,X.s₀.heap.get? b=some o->s.heap.get? b=some o:=fun b ob u e o g=>by
  have e1:=(h0 b _ e).1;have e2:=(I.hok b _ (I.base.frzs b ob u e)).1;rw [e1] at g;cases g;exact e2
 exact L.keep (fz f of uf hf) (fz c oc uc hc) fun y a o e g=>⟨I.base.keep a o g (L.cell y a e).1 (hx y a e).1 (hx y a e).2,I.base.free a o g (L.cell y a e).1 (hx y a e).2⟩
end
section
variable{X:Cx}{pins:Z3}{σ:St}{H:Hp}{s:Shared}{P c:Addr}{ps more:Array Value}{h':Heap}{t':Nat}
def Inv.tblUp(I:Inv X pins σ H s)(hP:H P=some (.tbl ps))(hx:Heap.ExtBut P s.heap h')(ht:h'.get? P=some (PySem.W.tabObj (ps++more))):Inv X pins σ (upd H P (.tbl (ps++more))) { s with heap:=h',toks:=t' }:=by
 have ne:∀b,H b=none->b≠P:=fun b e z=>by rw [z,hP] at e;cases e
 refine I.un ⟨fun b o e n _ _=>hx b o (ne b n) e,fun b o e n _ _=>⟨o.slots,hx b o (ne b n) e⟩,fun b o e n _=>by rw [zad (ne b n)];exact n,fun b o e _=>?_,fun b xs e=>?_,fun b o u e=>?_,fun b qs e=>?_⟩ fun b u q=>?_
 ·by_cases hb:b=P
  ·exact ⟨_,hb ▸ ht⟩
  ·exact ⟨o,hx b o hb e⟩
 ·rw [zad (fun z=>by rw [z,hP] at e;cases e)];exact e
 ·rw [zad (fun z=>by rw [z,hP] at e;cases e)];exact e
 ·by_cases hb:b=P
  ·subst hb;rw [hP] at e;cases e;exact ⟨more,zaj⟩
  ·exact ⟨#[],by rw [zad hb,e];simp⟩
 ·by_cases hb:b=P
  ·subst hb;rw [zaj] at q;cases q;exact ht
  ·rw [zad hb] at q
   refine (I.hok b u q).stay (fun d v hd r=>hx d v ?_ r) (fun d r=>by rw [zad (fun z=>by rw [z,hP] at r;cases r)];exact r) fun d xs r=>by rw [zad (fun z=>by rw [z,hP] at r;cases r)];exact r
   rcases hd with rfl | hd
   ·exact hb
   ·exact fun z=>by rw [z,hP] at hd;cases hd
end
noncomputable def zht(qual:Str)(oc:Obj):Prop:=∃us t,oc.data=.fields us/\us[1]?=some (.str qual t)
noncomputable def zlV(mg:Z6)(h:Heap):Prop:=∃bm ob,mg "__builtins__" = some (.ref bm)/\bm≠builtinsNs/\h.get? bm=some ob/\ob.cls=.type "module" /\ ob.dict=some builtinsNs/\ob.data=.plain
noncomputable def zwn(P:Addr)(pos:Pos)(fo:Addr->Value->Obj)(qual:Str):TE:=fun σ H Q=>∃ps,H P=some (.tbl ps)/\TriplesOk ps.toList ∧
 (codeAmong pos ps.toList=none->∀f c oc ctv,H f=none->H c=none->f≠c->zht qual oc →
  Q (.ref f) (upd (upd (upd H P (.tbl (ps++#[rawInt pos.line,rawInt pos.col,.ref c]))) c (.frz oc (.own c))) f (.frz (fo c ctv) (.own f)))) ∧
 ∀cv,codeAmong pos ps.toList=some cv->∃c oc,cv=.ref c/\H c=some (.frz oc (.own c))/\zht qual oc/\∀f ctv,H f=none->Q (.ref f) (upd H f (.frz (fo c ctv) (.own f)))
def zpX{X:Cx}{params:Arguments}{body:Expr}{sc:Scope}{pos:Pos}{cd P:Addr}{clos:List (Str×Addr)}(hcd:X.env.code=.ref cd)(hC:PySem.W.CodeHd X.base cd P)(hB:zlV X.mg X.base)(hcl:closureFor sc X.env=pure clos)(hdef:defaultsOf params X.env=([],[])) :
  PE X (.Lambda params body sc pos) (zwn P pos (fun c ctv=>PySem.W.kla_obj "<lambda>" (X.env.qual ++ "<lambda>") params body sc clos ((X.mg "__name__").getD .none) c ctv) (X.env.qual ++ "<lambda>")):=by
 intro pins s σ H Q I h;obtain ⟨ps,hP,ht,hmiss,hhit⟩:=h;have gP:s.heap.get? P=some (PySem.W.tabObj ps):=I.hok P _ hP;have hg:s.heap.Ns mainGlobals X.mg:=I.mod.glob.keeps I.bk;obtain ⟨bm,ob,b1,b2,b3,b4,b5,b6⟩:=hB
 have hgP:mainGlobals≠P:=fun q=>by
  obtain ⟨o,es,ep,e,hd,_⟩:=hg;rw [q,gP] at e;cases e;cases hd
 have hbP:bm≠P:=fun q=>by
  have e:=I.bk _ _ b3;rw [q,gP] at e;cases e;cases b4
 have hbG:bm≠mainGlobals:=fun q=>by
  obtain ⟨o,es,ep,e,hd,_⟩:=hg;have e':=I.bk _ _ b3;rw [q,e] at e';cases e';rw [hd] at b6;cases b6
 have bb:s.heap.BuiltinsAt X.mg P:=⟨bm,ob,b1,b2,hbG,hbP,I.bk _ _ b3,b4,b5,b6⟩;refine PySem.W.kla_eval hdef ?_
 cases hca:codeAmong pos ps.toList with
 | none =>
  refine PySem.W.kla_makeFunction (mg:=X.mg) hcl I.ok.glob hg hcd (hC.keeps I.bk) gP ht hca hgP bb fun c' ctv h1 tk hx hge hlt hrec htb=>?_
  obtain ⟨c2,oc,vs,t,e2,hoc,hd,hv⟩:=hrec;cases e2;have I1:=I.tblUp (t':=tk) hP hx htb;have hcP:c'≠P:=fun z=>absurd (yak (yaj gP) hge) (by rw [z];exact yaL _)
  have hcN:H c'=none:=I.hok.fresh hge
  have hcN1:upd H P (.tbl (ps++#[rawInt pos.line,rawInt pos.col,.ref c'])) c'=none:=by rw [zad hcP];exact hcN
  have I2:=I1.track (D:=c') (o:=.frz oc (.own c')) hcN1 (yas I.sz hge) (fun z=>absurd (yak I.lt hge) (by rw [z];exact yaL _)) (fun x a e z=>by
    obtain ⟨v,q⟩:=I.cell x a e
    exact absurd (yak q.lt hge) (by rw [z];exact yaL _)) (fun p hp z=>absurd (yak (yaj (I.pin p hp).1) hge) (by rw [z];exact yaL _)) ⟨hoc,oc,hoc⟩
  have fne:h1.objs.size≠c':=yaT hlt;have fP:h1.objs.size≠P:=yaT (yaj htb);refine ⟨.ref h1.objs.size,_,I2.laid (t':=tk) (a:=h1.objs.size) (o:=.frz (PySem.W.kla_obj "<lambda>" (X.env.qual ++ "<lambda>") params body sc clos ((X.mg "__name__").getD .none) c' ctv) (.own h1.objs.size)) (fun b u e=>yad _ e) (yah _) ⟨yag _ rfl,_,yag _ rfl⟩,rfl,?_⟩;refine hmiss hca _ c' oc ctv ?_ hcN fne ⟨vs,t,hd,hv⟩;have:=I2.hok.fresh (a:=h1.objs.size) (yah _);rwa [zad fne,zad fP] at this
 | some cv =>
  obtain ⟨c,oc,rfl,hc,⟨us,t,hd,hv⟩,hq⟩:=hhit cv hca;refine PySem.W.kla_makeFunctionHit (mg:=X.mg) hcl I.ok.glob hg hcd (hC.keeps I.bk) gP ht hca bb fun ctv h1 tk hk hsz=>?_
  have I1:=I.kept (t':=tk) hk;refine ⟨.ref h1.objs.size,_,I1.laid (t':=tk) (a:=h1.objs.size) (o:=.frz (PySem.W.kla_obj "<lambda>" (X.env.qual ++ "<lambda>") params body sc clos ((X.mg "__name__").getD .none) c ctv) (.own h1.objs.size)) (fun b u e=>yad _ e) (yah _) ⟨yag _ rfl,_,yag _ rfl⟩,rfl,?_⟩;exact hq _ ctv (I1.hok.fresh (a:=h1.objs.size) (yah _))
end L2
namespace S2
open PySem PySem.Spec PyProof.Rows L2
noncomputable abbrev St:=L2.St
inductive D where
 | non | bl (b:Bool) | int (i:Int) | str (x:Str) | tup (l:List D) | lst (l:List D) | dic (l:List (D×D)) | ref (n:Nat) | exc (c:Str) | scr (l:List Int)
inductive Root where
 | slot (i:Nat) | fld (n:Nat) (f:Str) | obj (n:Nat) | far | tab
 deriving DecidableEq
noncomputable abbrev Ow:=Addr->Option Root
structure Cf where
 ad:Str->Addr
 K:PySem.W.Frag
 P:Program
 wo:PySem.World
 tabs:Addr->Option Str:=fun _=>none
noncomputable instance:CoeFun Cf (fun _=>Str->Addr):=⟨Cf.ad⟩
structure Wd where
 H:Hp
 ow:Ow
 mu:List Addr
noncomputable def zwC:Key->D | .inl i=>.int i | .inr x=>.str x
def zwA(k:List Key):D:=.tup (k.map zwC)
noncomputable def kvI(ps:List (Int×Int)):List (Key×V):=ps.map fun x=>(.inl x.1,.int x.2)
noncomputable def dsI(ps:List (Int×Int)):List (D×D):=ps.map fun x=>(.int x.1,.int x.2)
noncomputable def pdD(ps:List (Int×Int)):List (D×D):=ps.map fun p=>(.tup [.int p.1,.int p.2],.bl true)
noncomputable def oI:Option Int->D | none=>.non | some i=>.int i
def odD(ps:List (Option Int×Int)):List (D×D):=(.non,.non)::ps.map fun p=>(oI p.1,.int p.2)
inductive Exd(cl:Cf)(w:Wd):HO->List (D×D)->Prop
 | pd {a:Addr} {xs:List PA2}:(∀x∈xs,w.H x.2=some (.tup [.int x.1.1,.int x.1.2])/\w.ow x.2=none)->Exd cl w (.ext (DP cl.P cl.wo a xs)) (pdD (xs.map (·.1)))
 | od {a:Addr} {ps:List (Option Int×Int)}:Exd cl w (.ext (DO cl.P cl.wo a ps)) (odD ps)
mutual
inductive Shd(cl:Cf)(w:Wd):V->D->Prop
 | non:Shd cl w .non .non
 | bl (b:Bool):Shd cl w (.bl b) (.bl b)
 | int (i:Int):Shd cl w (.int i) (.int i)
 | str (x:Str):Shd cl w (.str x) (.str x)
 | tup {a:Addr} {xs:List V} {ds:List D}:w.H a=some (.tup xs)->w.ow a=none->Shds cl w xs ds->Shd cl w (.ref a) (.tup ds)
 | lst {a:Addr} {xs:List V} {ds:List D}:w.H a=some (.lst xs)->w.ow a=none->Shds cl w xs ds->Shd cl w (.ref a) (.lst ds)
 | dicK {a:Addr} {kvs:List (Key×V)} {ds:List (D×D)}:w.H a=some (.dK kvs)->w.ow a=none->ShdK cl w kvs ds->Shd cl w (.ref a) (.dic ds)
 | dicT {a:Addr} {kvs:List (List Key×V)} {ds:List (D×D)}:w.H a=some (.dT kvs)->w.ow a=none->ShdT cl w kvs ds->Shd cl w (.ref a) (.dic ((.exc "",.non)::ds))
 | dicN {a:Addr} {ps:List (Int×Int)}:w.H a=some (.dK (kvI ps))->w.ow a=none->Shd cl w (.ref a) (.dic ((.non,.non)::dsI ps))
 | dicX {a:Addr} {o:HO} {ds:List (D×D)}:w.H a=some o->w.ow a=none->Exd cl w o ds->Shd cl w (.ref a) (.dic ((.bl true,.non)::ds))
 | ref {n:Nat} {a:Addr}:w.mu[n]?=some a->Shd cl w (.ref a) (.ref n)
 | scr {a:Addr} {o:Obj} {l:List Int}:w.H a=some (.frz o (.lst (l.map V.int)))->w.ow a=none->Shd cl w (.ref a) (.scr l)
 | scrK {a:Addr} {l:List Int}:(∀H:Hp,SqL cl.K H a (l.map V.int))->Shd cl w (.ref a) (.scr l)
 | exc {a:Addr} {c:Str} {ob:Obj}:w.H a=some (.frz ob (.own a))->w.ow a=none->ob.cls=.ref (cl c)->Shd cl w (.ref a) (.exc c)
inductive Shds(cl:Cf)(w:Wd):List V->List D->Prop
 | nil:Shds cl w [] []
 | cons {v:V} {d:D} {vs:List V} {ds:List D}:Shd cl w v d->Shds cl w vs ds->Shds cl w (v::vs) (d::ds)
inductive ShdK(cl:Cf)(w:Wd):List (Key×V)->List (D×D)->Prop
 | nil:ShdK cl w [] []
 | consI {i:Int} {v:V} {d:D} {vs:List (Key×V)} {ds:List (D×D)}:Shd cl w v d->ShdK cl w vs ds->ShdK cl w ((.inl i,v)::vs) ((.int i,d)::ds)
 | consS {x:Str} {v:V} {d:D} {vs:List (Key×V)} {ds:List (D×D)}:Shd cl w v d->ShdK cl w vs ds->ShdK cl w ((.inr x,v)::vs) ((.str x,d)::ds)
inductive ShdT(cl:Cf)(w:Wd):List (List Key×V)->List (D×D)->Prop
 | nil:ShdT cl w [] []
 | cons {k:List Key} {v:V} {d:D} {vs:List (List Key×V)} {ds:List (D×D)}:Shd cl w v d->ShdT cl w vs ds->ShdT cl w ((k,v)::vs) ((zwA k,d)::ds)
end
structure Fut(w w':Wd):Prop where
 keep:∀a o,w.H a=some o->w.ow a=none->w'.H a=some o/\w'.ow a=none
 mu:∀(n:Nat) (a:Addr),w.mu[n]?=some a->w'.mu[n]?=some a
def Fut.refl(w:Wd):Fut w w:=⟨fun _ _ h k=>⟨h,k⟩,fun _ _ h=>h⟩
def Fut.trans(a:Fut w w1)(b:Fut w1 w2):Fut w w2:=⟨fun c o h k=>b.keep c o (a.keep c o h k).1 (a.keep c o h k).2,fun n c h=>b.mu n c (a.mu n c h)⟩
theorem Exd.up(f:Fut w w'):Exd cl w o ds->Exd cl w' o ds
 | .pd h=>.pd fun x hx=>f.keep _ _ (h x hx).1 (h x hx).2
 | .od=>.od
mutual
theorem Shd.up{cl:Cf}{w w':Wd}(f:Fut w w'):∀{v:V} {d:D},Shd cl w v d->Shd cl w' v d
 | _,_,.non=>.non
 | _,_,.bl b=>.bl b
 | _,_,.int i=>.int i
 | _,_,.str x=>.str x
 | _,_,.tup e k r=>.tup (f.keep _ _ e k).1 (f.keep _ _ e k).2 (Shds.up f r)
 | _,_,.lst e k r=>.lst (f.keep _ _ e k).1 (f.keep _ _ e k).2 (Shds.up f r)
 | _,_,.dicK e k r=>.dicK (f.keep _ _ e k).1 (f.keep _ _ e k).2 (ShdK.up f r)
 | _,_,.dicT e k r=>.dicT (f.keep _ _ e k).1 (f.keep _ _ e k).2 (ShdT.up f r)
 | _,_,.dicN e k=>.dicN (f.keep _ _ e k).1 (f.keep _ _ e k).2
 | _,_,.dicX e k x=>.dicX (f.keep _ _ e k).1 (f.keep _ _ e k).2 (x.up f)
 | _,_,.ref e=>.ref (f.mu _ _ e)
 | _,_,.scr e k=>.scr (f.keep _ _ e k).1 (f.keep _ _ e k).2
 | _,_,.scrK h=>.scrK h
 | _,_,.exc e k h=>.exc (f.keep _ _ e k).1 (f.keep _ _ e k).2 h
theorem Shds.up{cl:Cf}{w w':Wd}(f:Fut w w'):∀{vs:List V} {ds:List D},Shds cl w vs ds->Shds cl w' vs ds
 | _,_,.nil=>.nil
 | _,_,.cons r t=>.cons (Shd.up f r) (Shds.up f t)
theorem ShdK.up{cl:Cf}{w w':Wd}(f:Fut w w'):∀{vs:List (Key×V)} {ds:List (D×D)},ShdK cl w vs ds->ShdK cl w' vs ds
 | _,_,.nil=>.nil
 | _,_,.consI r t=>.consI (Shd.up f r) (ShdK.up f t)
 | _,_,.consS r t=>.consS (Shd.up f r) (ShdK.up f t)
theorem ShdT.up{cl:Cf}{w w':Wd}(f:Fut w w'):∀{vs:List (List Key×V)} {ds:List (D×D)},ShdT cl w vs ds->ShdT cl w' vs ds
 | _,_,.nil=>.nil
 | _,_,.cons r t=>.cons (Shd.up f r) (ShdT.up f t)
end
section
variable{cl:Cf}{w:Wd}
theorem Shds.length:∀{vs:List V} {ds:List D},Shds cl w vs ds->vs.length=ds.length
 | _,_,.nil=>rfl
 | _,_,.cons _ t=>by rw [yam,yam,Shds.length t]
theorem Shds.get:∀{vs:List V} {ds:List D},Shds cl w vs ds->∀{i:Nat} {v:V},vs[i]?=some v->∃d,ds[i]?=some d/\Shd cl w v d
 | _,_,.nil,i,v,e=>by simp at e
 | _,_,.cons r _,0,v,e=>by simp at e;subst e;exact ⟨_,rfl,r⟩
 | _,_,.cons _ t,i+1,v,e=>by
  obtain ⟨d,h1,h2⟩:=Shds.get t (i:=i) (v:=v) (by simpa using e);exact ⟨d,by simpa using h1,h2⟩
theorem Shds.at:∀{vs:List V} {ds:List D},Shds cl w vs ds->∀{i:Nat} {d:D},ds[i]?=some d->∃v,vs[i]?=some v/\Shd cl w v d
 | _,_,.nil,i,v,e=>by simp at e
 | _,_,.cons r _,0,v,e=>by simp at e;subst e;exact ⟨_,rfl,r⟩
 | _,_,.cons _ t,i+1,v,e=>by
  obtain ⟨d,h1,h2⟩:=Shds.at t (i:=i) (d:=v) (by simpa using e);exact ⟨d,by simpa using h1,h2⟩
theorem Shds.append:∀{vs ws:List V} {ds es:List D},Shds cl w vs ds->Shds cl w ws es->Shds cl w (vs++ws) (ds++es)
 | _,_,_,_,.nil,s=>s
 | _,_,_,_,.cons r t,s=>.cons r (Shds.append t s)
theorem Shds.take:∀{vs:List V} {ds:List D} (n:Nat),Shds cl w vs ds->Shds cl w (vs.take n) (ds.take n)
 | _,_,0,_=>.nil
 | _,_,_+1,.nil=>.nil
 | _,_,n+1,.cons r t=>.cons r (Shds.take n t)
theorem Shds.drop:∀{vs:List V} {ds:List D} (n:Nat),Shds cl w vs ds->Shds cl w (vs.drop n) (ds.drop n)
 | _,_,0,s=>s
 | _,_,_+1,.nil=>.nil
 | _,_,n+1,.cons _ t=>Shds.drop n t
theorem Shds.set{v:V}{d:D}(r:Shd cl w v d):∀{vs:List V} {ds:List D} (i:Nat),Shds cl w vs ds->Shds cl w (vs.set i v) (ds.set i d)
 | _,_,_,.nil=>.nil
 | _,_,0,.cons _ t=>.cons r t
 | _,_,i+1,.cons q t=>.cons q (Shds.set r i t)
theorem Shds.rev:∀{vs:List V} {ds:List D},Shds cl w vs ds->Shds cl w vs.reverse ds.reverse
 | _,_,.nil=>.nil
 | _,_,.cons r t=>by
  rw [ycC,ycC];exact Shds.append (Shds.rev t) (.cons r .nil)
theorem Shds.flat(h:Shds cl w vs ds):∀n:Nat,Shds cl w (List.replicate n vs).flatten (List.replicate n ds).flatten
 | 0=>.nil
 | n+1=>by
  rw [ybn,ybn,ybR,ybR];exact Shds.append h (Shds.flat h n)
end
inductive Top(cl:Cf)(w:Wd):HO->D->Prop
 | lst {xs:List V} {ds:List D}:Shds cl w xs ds->Top cl w (.lst xs) (.lst ds)
 | dicK {kvs:List (Key×V)} {ds:List (D×D)}:ShdK cl w kvs ds->Top cl w (.dK kvs) (.dic ds)
 | dicT {kvs:List (List Key×V)} {ds:List (D×D)}:ShdT cl w kvs ds->Top cl w (.dT kvs) (.dic ((.exc "",.non)::ds))
 | dicN {ps:List (Int×Int)}:Top cl w (.dK (kvI ps)) (.dic ((.non,.non)::dsI ps))
 | dicX {o:HO} {ds:List (D×D)}:Exd cl w o ds->Top cl w o (.dic ((.bl true,.non)::ds))
theorem Top.up(f:Fut w w'):Top cl w o d->Top cl w' o d
 | .lst h=>.lst (h.up f)
 | .dicK h=>.dicK (h.up f)
 | .dicT h=>.dicT (h.up f)
 | .dicN=>.dicN
 | .dicX x=>.dicX (x.up f)
noncomputable def zhp(cl:Cf)(w:Wd)(r:Root):Bool->V->D->Prop
 | false,v,d=>Shd cl w v d
 | true,v,d=>∃a o,v=.ref a/\w.ow a=some r/\w.H a=some o/\Top cl w o d
theorem zhp.keep(f:Fut w w')(k:∀a o,w.H a=some o->w.ow a=some r->w'.H a=some o/\w'.ow a=some r):∀{b:Bool} {v:V} {d:D},zhp cl w r b v d->zhp cl w' r b v d
 | false,_,_,h=>Shd.up f h
 | true,_,_,⟨a,o,e,h1,h2,t⟩=>⟨a,o,e,(k a o h2 h1).2,(k a o h2 h1).1,t.up f⟩
noncomputable def oDn:Option Int->D | none=>.non | some i=>.int i
def nkD(k:NK):D:=.tup [.int k.1,.tup (k.2.map oDn)]
inductive ShdN(cl:Cf)(w:Wd):List (NK×V)->List (D×D)->Prop
 | nil:ShdN cl w [] []
 | cons {k:NK} {v:V} {d:D} {m:List (NK×V)} {ds:List (D×D)}:Shd cl w v d->ShdN cl w m ds->ShdN cl w ((k,v)::m) ((nkD k,d)::ds)
theorem ShdN.up(f:Fut w w'):∀{m:List (NK×V)} {ds:List (D×D)},ShdN cl w m ds->ShdN cl w' m ds
 | _,_,.nil=>.nil
 | _,_,.cons r t=>.cons (r.up f) (ShdN.up f t)
noncomputable def zkg(w:Wd)(kb:Addr)(k:NK):Prop:=∃b,(w.H kb=some (.tup [.int k.1,.ref b])/\w.ow kb=none)/\w.H b=some (.tup (k.2.map oV))/\w.ow b=none
def zkg.up(f:Fut w w')(h:zkg w kb k):zkg w' kb k:=by
 obtain ⟨b,h1,h2⟩:=h;exact ⟨b,f.keep _ _ h1.1 h1.2,f.keep _ _ h2.1 h2.2⟩
def zkg.at(h:zkg w kb k):zgv w.H kb k:=by
 obtain ⟨b,h1,h2⟩:=h;exact ⟨b,h1.1,h2.1⟩
noncomputable def zhs(w:Wd):List (NK×Addr×Value)->List (NK×V)->Prop:=Paired fun (x:NK×Addr×Value) (p:NK×V)=>x.1=p.1/\zkg w x.2.1 x.1/\zaI p.2 x.2.2
theorem zhs.up(f:Fut w w'):∀{xs:List (NK×Addr×Value)} {m:List (NK×V)},zhs w xs m->zhs w' xs m
 | _,_,.nil=>.nil
 | _,_,.cons h t=>.cons ⟨h.1,h.2.1.up f,h.2.2⟩ (zhs.up f t)
theorem zhs.ents:∀{xs:List (NK×Addr×Value)} {m:List (NK×V)},zhs w xs m->zlU w.H xs m
 | _,_,.nil=>.nil
 | _,_,.cons h t=>.cons ⟨h.1,h.2.1.at,h.2.2⟩ (zhs.ents t)
theorem zhs.snoc(h:x.1=p.1/\zkg w x.2.1 x.1/\zaI p.2 x.2.2):∀{xs:List (NK×Addr×Value)} {m:List (NK×V)},zhs w xs m->zhs w (xs++[x]) (m++[p])
 | _,_,.nil=>.cons h .nil
 | _,_,.cons h' t=>.cons h' (zhs.snoc h t)
theorem ShdN.snoc(h:Shd cl w v d):∀{m:List (NK×V)} {ds:List (D×D)},ShdN cl w m ds->ShdN cl w (m++[(k,v)]) (ds++[(nkD k,d)])
 | _,_,.nil=>.cons h .nil
 | _,_,.cons r t=>.cons r (ShdN.snoc h t)
noncomputable def zxo(cl:Cf)(w:Wd)(r:Root)(v:V)(d:D):Prop:=∃a xs m ds,v=.ref a/\w.ow a=some r/\w.H a=some (.ext (DN cl.P cl.wo a xs))/\zhs w xs m/\ShdN cl w m ds/\d=.dic ds
noncomputable def zgw(cl:Cf)(w:Wd)(r:Root)(own:Bool)(v:V)(d:D):Prop:=(own=false/\Shd cl w v d)\/(own=true/\zxo cl w r v d)
def zgw.keep(f:Fut w w')(k:∀a o,w.H a=some o->w.ow a=some r->w'.H a=some o/\w'.ow a=some r)(h:zgw cl w r b v d):zgw cl w' r b v d:=by
 rcases h with ⟨e,h⟩ | ⟨e,a,xs,m,ds,e1,e2,e3,e4,e5,e6⟩
 ·exact .inl ⟨e,h.up f⟩
 ·exact .inr ⟨e,a,xs,m,ds,e1,(k a _ e3 e2).2,(k a _ e3 e2).1,e4.up f,e5.up f,e6⟩
structure Ob where
 cls:Str
 fs:List (Str×Bool×D)
noncomputable abbrev Sto:=List Ob
noncomputable def zb3(cl:Cf)(w:Wd)(n:Nat):List (Str×V)->List (Str×Bool×D)->Prop:=Paired fun p q=>p.1=q.1/\zgw cl w (.fld n q.1) q.2.1 p.2 q.2.2
noncomputable def zru(cl:Cf)(w:Wd)(n:Nat)(a:Addr)(ob:Ob):Prop:=w.ow a=some (.obj n)/\∃dx fs,w.H a=some (.ins (cl ob.cls) dx fs)/\zb3 cl w n fs ob.fs
noncomputable def zqb(n:Nat):Option Root->Prop | some (.obj m)=>m=n | some (.fld m _)=>m=n | _=>False
theorem zb3.keep(f:Fut w w')(k:∀a o,w.H a=some o->zqb n (w.ow a)->w'.H a=some o/\w'.ow a=w.ow a):∀{fs:List (Str×V)} {gs:List (Str×Bool×D)},zb3 cl w n fs gs->zb3 cl w' n fs gs
 | _,_,.nil=>.nil
 | _,_,.cons ⟨e,h⟩ t=>.cons ⟨e,h.keep f fun a o ha hr=>by
   have:=k a o ha (by rw [hr];rfl)
   exact ⟨this.1,this.2.trans hr⟩⟩ (zb3.keep f k t)
theorem zru.keep(f:Fut w w')(k:∀a o,w.H a=some o->zqb n (w.ow a)->w'.H a=some o/\w'.ow a=w.ow a)(h:zru cl w n a ob):zru cl w' n a ob:=by
 obtain ⟨h1,dx,fs,h2,h3⟩:=h;have:=k a _ h2 (by rw [h1];rfl);exact ⟨this.2.trans h1,dx,fs,this.1,h3.keep f k⟩
noncomputable def zkb(w:Wd)(qual:Str)(ps:Array Value):Prop:=TriplesOk ps.toList/\∀pos cv,codeAmong pos ps.toList=some cv->∃c oc,cv=.ref c/\(w.H c=some (.frz oc (.own c))/\w.ow c=none)/\zht qual oc
def zkb.up{w w':Wd}(f:Fut w w'){q:Str}{ps:Array Value}(h:zkb w q ps):zkb w' q ps :=
 ⟨h.1,fun pos cv e=>let ⟨c,oc,h1,h2,h3⟩:=h.2 pos cv e;⟨c,oc,h1,f.keep _ _ h2.1 h2.2,h3⟩⟩
noncomputable def zlR(cl:Cf)(w:Wd):Prop:=∀P q,cl.tabs P=some q->∃ps,w.H P=some (.tbl ps)/\w.ow P=some .tab/\zkb w q ps
def zlR.keep{cl:Cf}{w w':Wd}(h:zlR cl w)(f:Fut w w')(k:∀P ps,w.H P=some (.tbl ps)->w.ow P=some .tab->w'.H P=some (.tbl ps)/\w'.ow P=some .tab):zlR cl w':=fun P q e =>
 let ⟨ps,h1,h2,h3⟩:=h P q e;⟨ps,(k P ps h1 h2).1,(k P ps h1 h2).2,h3.up f⟩
structure Base where
 Fr:Hp
 fw:Ow
structure World'(cl:Cf)(B:Base)(w:Wd)(S:Sto):Prop where
 fr:∀a o,B.Fr a=some o->w.H a=some o/\w.ow a=B.fw a
 own:∀a r,w.ow a=some r->r=.far\/B.Fr a=none
 len:w.mu.length=S.length
 obj:∀(n:Nat) (ob:Ob),S[n]?=some ob->∃a,w.mu[n]?=some a/\zru cl w n a ob
 tab:zlR cl w
noncomputable abbrev Env:=List (Option (Bool×D))
structure Rel(cl:Cf)(B:Base)(σ:St)(w:Wd)(ρ:Env)(S:Sto):Prop where
 wd:World' cl B w S
 len:σ.length=ρ.length
 slots:∀(i:Nat) (o:Bool) (d:D),ρ[i]?=some (some (o,d))->∃v,σ[i]?=some (some v)/\zhp cl w (.slot i) o v d
structure Grow(w w':Wd):Prop where
 keep:∀a o,w.H a=some o->w'.H a=some o/\w'.ow a=w.ow a
 new:∀a r,w'.ow a=some r->w.H a=none->w.ow a=some r\/r=.far
 mu:w'.mu=w.mu
def Grow.refl(w:Wd):Grow w w:=⟨fun _ _ h=>⟨h,rfl⟩,fun _ _ h _=>.inl h,rfl⟩
def Grow.fut(g:Grow w w'):Fut w w':=⟨fun a o h k=>⟨(g.keep a o h).1,(g.keep a o h).2.trans k⟩,fun n a h=>by rw [g.mu];exact h⟩
def World'.grow(W:World' cl B w S)(g:Grow w w'):World' cl B w' S where
 fr:=fun a o h=>by
  obtain ⟨h1,h2⟩:=W.fr a o h;exact ⟨(g.keep a o h1).1,(g.keep a o h1).2.trans h2⟩
 own:=fun a r h=>by
  cases e:w.H a with
  | none=>exact (g.new a r h e).elim (W.own a r) .inl
  | some o=>exact W.own a r (by rw [<-(g.keep a o e).2];exact h)
 len:=by rw [g.mu];exact W.len
 obj:=fun n ob h=>by
  obtain ⟨a,e,x⟩:=W.obj n ob h;exact ⟨a,by rw [g.mu];exact e,x.keep g.fut fun a o ha _=>g.keep a o ha⟩
 tab:=W.tab.keep g.fut fun P ps h1 h2=>⟨(g.keep P _ h1).1,(g.keep P _ h1).2.trans h2⟩
theorem Rel.grow(R:Rel cl B σ w ρ S)(g:Grow w w'):Rel cl B σ w' ρ S where
 wd:=R.wd.grow g
 len:=R.len
 slots:=fun i o d h=>by
  obtain ⟨v,e,x⟩:=R.slots i o d h;exact ⟨v,e,x.keep g.fut fun a o ha hr=>⟨(g.keep a o ha).1,(g.keep a o ha).2.trans hr⟩⟩
def Wd.add(w:Wd)(p:Addr)(o:HO):Wd:=⟨upd w.H p o,fun a=>if a=p then none else w.ow a,w.mu⟩
def zah(h:w.H p=none)(o:HO):Grow w (w.add p o) where
 keep:=fun a u ha=>by
  have n:a≠p:=zam ha h;refine ⟨?_,?_⟩
  ·show upd w.H p o a=_;rw [zad n];exact ha
  ·show (if a=p then none else w.ow a)=_;rw [if_neg n]
 new:=fun a r h1 h2=>by
  have h1':(if a=p then none else w.ow a)=some r:=h1;split at h1'
  ·cases h1'
  ·exact .inl h1'
 mu:=rfl
def zcc{w:Wd}:(w.add p o).ow p=none:=if_pos rfl
def zdM{w:Wd}:(w.add p o).H p=some o:=zaj
def Shd.newT(h:w.H p=none)(r:Shds cl w xs ds):Shd cl (w.add p (.tup xs)) (.ref p) (.tup ds):=.tup zdM zcc (r.up (zah h _).fut)
def Shd.newL(h:w.H p=none)(r:Shds cl w xs ds):Shd cl (w.add p (.lst xs)) (.ref p) (.lst ds):=.lst zdM zcc (r.up (zah h _).fut)
def Shd.newO(h:w.H p=none)(r:Top cl w o d):Shd cl (w.add p o) (.ref p) d:=by
 have g:=(zah h o).fut
 cases r with
 | lst r=>exact .lst zdM zcc (r.up g)
 | dicK r=>exact .dicK zdM zcc (r.up g)
 | dicT r=>exact .dicT zdM zcc (r.up g)
 | dicN=>exact .dicN zdM zcc
 | dicX x=>exact .dicX zdM zcc (x.up g)
inductive Out(α:Type) where
 | ok (a:α) (S:Sto) | exc (c:Str) (S:Sto) | bad
noncomputable abbrev Fe:=Env->Sto->Out D
inductive Fo where
 | nx (ρ:Env) (S:Sto) | rt (d:D) (S:Sto) | bk (ρ:Env) (S:Sto) | ct (ρ:Env) (S:Sto) | ex (c:Str) (ρ:Env) (S:Sto) | bad
noncomputable abbrev Fs:=Env->Sto->Fo
noncomputable def tE(cl:Cf)(E:St->XK)(f:Fe):TE:=fun σ H Q=>∃B w ρ S,w.H=H/\Rel cl B σ w ρ S/\match f ρ S with
 | .ok d S'=>∀v w',Rel cl B σ w' ρ S'->Fut w w'->Shd cl w' v d->Q v w'.H
 | .exc c S'=>∀w',Rel cl B σ w' ρ S'->Fut w w'->E σ (.ref (cl c)) none w'.H
 | .bad=>False
noncomputable def tN(cl:Cf)(E:St->XK)(f:Fe):TE:=fun σ H Q=>∃B w ρ S,w.H=H/\Rel cl B σ w ρ S/\match f ρ S with
 | .ok d S'=>∀p o w',Rel cl B σ w' ρ S'->Fut w w'->w'.H p=none->Top cl w' o d->Q (.ref p) (upd w'.H p o)
 | .exc c S'=>∀w',Rel cl B σ w' ρ S'->Fut w w'->E σ (.ref (cl c)) none w'.H
 | .bad=>False
noncomputable def Hd(cl:Cf)(σ:St)(ρ:Env)(w:Wd)(v:V)(d:D):Prop:=Shd cl w v d\/∃i:Nat,ρ[i]?=some (some (true,d))/\σ[i]?=some (some v)
noncomputable def tH(cl:Cf)(E:St->XK)(f:Fe):TE:=fun σ H Q=>∃B w ρ S,w.H=H/\Rel cl B σ w ρ S/\match f ρ S with
 | .ok d S'=>∀v w',Rel cl B σ w' ρ S'->Fut w w'->Hd cl σ ρ w' v d->Q v w'.H
 | .exc c S'=>∀w',Rel cl B σ w' ρ S'->Fut w w'->E σ (.ref (cl c)) none w'.H
 | .bad=>False
inductive TopV(cl:Cf)(w:Wd):V->D->Prop
 | sh {v:V} {d:D}:Shd cl w v d->TopV cl w v d
 | ow {a:Addr} {o:HO} {d:D}:w.H a=some o->Top cl w o d->TopV cl w (.ref a) d
def Hd.top(h:Hd cl σ ρ w v d)(R:Rel cl B σ w ρ S):TopV cl w v d:=by
 rcases h with h | ⟨i,h1,h2⟩
 ·exact .sh h
 ·obtain ⟨v',e,a,o,rfl,_,h3,t⟩:=R.slots i true d h1;rw [h2] at e;cases e;exact .ow h3 t
theorem Hd.up(f:Fut w w')(h:Hd cl σ ρ w v d):Hd cl σ ρ w' v d:=by
 rcases h with h | h
 ·exact .inl (h.up f)
 ·exact .inr h
def PE.imp(h:PE X e t)(i:∀σ H Q,t' σ H Q->t σ H Q):PE X e t':=fun pins s σ H Q I q=>h pins s σ H Q I (i _ _ _ q)
def zsj(h:tE cl E f σ H Q):tN cl E f σ H Q:=by
 obtain ⟨B,w,ρ,S,e,R,h⟩:=h;refine ⟨B,w,ρ,S,e,R,?_⟩
 cases hf:f ρ S with
 | ok d S' =>
  rw [hf] at h;intro p o w' R' F' hp t;exact h (.ref p) (w'.add p o) (R'.grow (zah hp o)) (F'.trans (zah hp o).fut) (Shd.newO hp t)
 | exc c S'=>rwa [hf] at h
 | bad=>rwa [hf] at h
def zsi(h:tH cl E f σ H Q):tE cl E f σ H Q:=by
 obtain ⟨B,w,ρ,S,e,R,h⟩:=h;refine ⟨B,w,ρ,S,e,R,?_⟩
 cases hf:f ρ S with
 | ok d S' =>
  rw [hf] at h;intro v w' R' F' t;exact h v w' R' F' (.inl t)
 | exc c S'=>rwa [hf] at h
 | bad=>rwa [hf] at h
noncomputable def Out.bind{α β:Type}(o:Out α)(k:α->Sto->Out β):Out β:=match o with | .ok a S=>k a S | .exc c S=>.exc c S | .bad=>.bad
noncomputable def Out.of{α:Type}(o:Option α)(S:Sto):Out α:=match o with | some a=>.ok a S | none=>.bad
@[simp] def Out.bind_ok{α β:Type}(a:α)(S:Sto)(k:α->Sto->Out β):(Out.ok a S).bind k=k a S:=rfl
@[simp] def Out.bind_exc{α β:Type}(c:Str)(S:Sto)(k:α->Sto->Out β):(Out.exc c S:Out α).bind k=.exc c S:=rfl
@[simp] def Out.bind_bad{α β:Type}(k:α->Sto->Out β):(Out.bad:Out α).bind k=.bad:=rfl
@[simp] def Out.of_some{α:Type}(a:α)(S:Sto):Out.of (some a) S=.ok a S:=rfl
noncomputable def zan(i:Nat):Fe:=fun ρ S=>match ρ[i]? with | some (some (false,d))=>.ok d S | _=>.bad
noncomputable def zau(i:Nat):Fe:=fun ρ S=>match ρ[i]? with | some (some (_,d))=>.ok d S | _=>.bad
noncomputable def zae(d:D):Fe:=fun _ S=>.ok d S
def eUn(g:D->Option D)(f:Fe):Fe:=fun ρ S=>(f ρ S).bind fun a S1=>Out.of (g a) S1
def zal(g:D->D->Option D)(f h:Fe):Fe:=fun ρ S=>(f ρ S).bind fun a S1=>(h ρ S1).bind fun b S2=>Out.of (g a b) S2
noncomputable def isB:D->Option Bool | .bl b=>some b | _=>none
def eIf(c f h:Fe):Fe:=fun ρ S=>(c ρ S).bind fun d S1=>match isB d with | some true=>f ρ S1 | some false=>h ρ S1 | none=>.bad
def zhc(f h:Fe):Fe:=fun ρ S=>(f ρ S).bind fun d S1=>match isB d with | some true=>h ρ S1 | some false=>.ok (.bl false) S1 | none=>.bad
def eOr(f h:Fe):Fe:=fun ρ S=>(f ρ S).bind fun d S1=>match isB d with | some true=>.ok (.bl true) S1 | some false=>h ρ S1 | none=>.bad
noncomputable def zfV:D->Option D | .bl b=>some (.bl (!b)) | _=>none
def zag:List Fe->Env->Sto->Out (List D)
 | [],_,S=>.ok [] S
 | f::fs,ρ,S=>(f ρ S).bind fun d S1=>(zag fs ρ S1).bind fun ds S2=>.ok (d::ds) S2
noncomputable def small(n:Nat):Bool:=decide (n<=100000)
def za5(fs:List Fe):Fe:=fun ρ S=>(zag fs ρ S).bind fun ds S1=>if small ds.length then .ok (.tup ds) S1 else .bad
def zc6(fs:List Fe):Fe:=fun ρ S=>(zag fs ρ S).bind fun ds S1=>if small ds.length then .ok (.lst ds) S1 else .bad
def zaZ(g:List D->Option D)(fs:List Fe):Fe:=fun ρ S=>(zag fs ρ S).bind fun ds S1=>Out.of (g ds) S1
def zav(h:small n=true):n<=sizeLine:=yas (yal h) (by decide)
noncomputable def zaB:Expr->Bool | .Starred _ _=>false | _=>true
def zap(h:zaB e=true):starEach (e::es) env=(false,eval e env)::starEach es env:=by
 cases e<;>first | rfl | cases h
theorem zaN:∀{es:List Expr},es.all zaB=true->(backTo pos (starEach es env)).any (·.1)=false
 | [],_=>rfl
 | e::es,h=>by
  rw [ybA,yab] at h;rw [zap h.1];show (false||(backTo pos (starEach es env)).any (·.1))=false;rw [zaN h.2];rfl
theorem zfa:∀{es:List Expr},es.all zaB=true->(backTo pos (starEach es env)).all (fun x=>!x.1)=true
 | [],_=>rfl
 | e::es,h=>by
  rw [ybA,yab] at h;rw [zap h.1];show (true&&(backTo pos (starEach es env)).all (fun x=>!x.1))=true;rw [zfa h.2];rfl
def zc3(h:es.all zaB=true)(hl:es.length<30):((backTo pos (starEach es env)).all (fun x=>!x.1)&&(backToKw pos (keywordEach [] env)).all (fun x=>x.1.isSome)
   && decide (es.length+([]:List Keyword).length+(if ([]:List Keyword).isEmpty then 0 else 1)<30))=true:=by
 rw [zfa h];show (true&&true&&decide (es.length+0+0<30))=true;simpa using hl
noncomputable def Hds(cl:Cf)(σ:St)(ρ:Env)(w:Wd):List V->List D->Prop:=Paired (Hd cl σ ρ w)
noncomputable def zka(cl:Cf)(w:Wd):List V->List D->Prop:=Paired (TopV cl w)
theorem Hds.top(R:Rel cl B σ w ρ S):∀{vs:List V} {ds:List D},Hds cl σ ρ w vs ds->zka cl w vs ds
 | _,_,.nil=>.nil
 | _,_,.cons h t=>.cons (h.top R) (Hds.top R t)
noncomputable def tAs(cl:Cf)(E:St->XK)(fs:List Fe):TA:=fun σ H Q=>∃B w ρ S,w.H=H/\Rel cl B σ w ρ S/\match zag fs ρ S with
 | .ok ds S'=>∀vs w',Rel cl B σ w' ρ S'->Fut w w'->Shds cl w' vs ds->Q vs w'.H
 | .exc c S'=>∀w',Rel cl B σ w' ρ S'->Fut w w'->E σ (.ref (cl c)) none w'.H
 | .bad=>False
noncomputable def tHs(cl:Cf)(E:St->XK)(fs:List Fe):TA:=fun σ H Q=>∃B w ρ S,w.H=H/\Rel cl B σ w ρ S/\match zag fs ρ S with
 | .ok ds S'=>∀vs w',Rel cl B σ w' ρ S'->Fut w w'->Hds cl σ ρ w' vs ds->Q vs w'.H
 | .exc c S'=>∀w',Rel cl B σ w' ρ S'->Fut w w'->E σ (.ref (cl c)) none w'.H
 | .bad=>False
def PA.imp(h:PA X es t)(i:∀σ H Q,t' σ H Q->t σ H Q):PA X es t':=fun pos pins s σ H Q I q=>h pos pins s σ H Q I (i _ _ _ q)
def PT.imp(h:PT X e t)(i:∀σ H Q,t' σ H Q->t σ H Q):PT X e t':=fun pins s σ H Q I q=>h pins s σ H Q I (i _ _ _ q)
section
variable{X:Cx}{cl:Cf}{E:St->XK}{a b c e:Expr}{f h g:Fe}{pos:Pos}
def zps(hN:X.N[i]?=some x)(hv:Vis X.env.scope x)(hd:(x == ("__debug__":Str))=false)(hcd:(x == ("__classdict__":Str))=false):PE X (.Name x pos) (tE cl E (zan i)):=by
 refine PE.imp (zaU hN hv hd hcd) ?_;rintro σ H Q ⟨B,w,ρ,S,rfl,R,q⟩;unfold zan at q;split at q
 ·rename_i o d S' hm;split at hm
  ·rename_i d' he;cases hm;obtain ⟨v,e,r⟩:=R.slots i false d he;exact ⟨v,e,q v w R (Fut.refl _) r⟩
  ·cases hm
 ·rename_i hm;split at hm<;>cases hm
 ·exact q.elim
def ziC(hN:X.N[i]?=some x)(hv:Vis X.env.scope x)(hd:(x == ("__debug__":Str))=false)(hcd:(x == ("__classdict__":Str))=false):PE X (.Name x pos) (tH cl E (zau i)):=by
 refine PE.imp (zaU hN hv hd hcd) ?_;rintro σ H Q ⟨B,w,ρ,S,rfl,R,q⟩;unfold zau at q;split at q
 ·rename_i o d S' hm;split at hm
  ·rename_i b d' he;cases hm;obtain ⟨v,e,r⟩:=R.slots i b d he;refine ⟨v,e,q v w R (Fut.refl _) ?_⟩
   cases b with
   | false=>exact .inl r
   | true=>exact .inr ⟨i,he,e⟩
  ·cases hm
 ·rename_i hm;split at hm<;>cases hm
 ·exact q.elim
def zem(h:PE X e (tC v))(hd:∀w,Shd cl w v d):PE X e (tE cl E (zae d)):=by
 refine PE.imp h ?_;rintro σ H Q ⟨B,w,ρ,S,rfl,R,q⟩;exact q v w R (Fut.refl _) (hd w)
def zbv(h:PE X e (tE cl E f)):PE X e (tH cl E f):=PE.imp h fun _ _ _=>zsi
def zbc(h:PE X e (tN cl E f)):PE X e (tE cl E f):=PE.imp h fun _ _ _=>zsj
noncomputable def OpD(X:Cx)(cl:Cf)(op:Value->Value->Sem Value)(g:D->D->Option D):Prop:=OpR X op fun x y H Q=>∃w d e r,w.H=H/\TopV cl w x d/\TopV cl w y e/\g d e=some r/\∀v w',Grow w w'->Shd cl w' v r->Q v w'.H
noncomputable def UnD(X:Cx)(cl:Cf)(op:Value->Sem Value)(g:D->Option D):Prop:=UnR X op fun x H Q=>∃w d r,w.H=H/\TopV cl w x d/\g d=some r/\∀v w',Grow w w'->Shd cl w' v r->Q v w'.H
noncomputable def zdN(X:Cx)(cl:Cf)(fv:Value)(g:List D->Option D):Prop:=zbg X fv fun xs H Q=>∃w ds r,w.H=H/\zka cl w xs ds/\g ds=some r/\∀v w',Grow w w'->Shd cl w' v r->Q v w'.H
noncomputable def zrw(X:Cx)(cl:Cf)(fv:Value)(g:List D->Option D):Prop:=zbg X fv fun xs H Q=>∃w ds r,w.H=H/\zka cl w xs ds/\g ds=some r/\∀p o w',Grow w w'->w'.H p=none->Top cl w' o r->Q (.ref p) (upd w'.H p o)
noncomputable def IxD(X:Cx)(cl:Cf)(g:D->D->Option D):Prop:=IxR X fun x y H Q=>∃w d e r,w.H=H/\TopV cl w x d/\TopV cl w y e/\g d e=some r/\∀v w',Grow w w'->Shd cl w' v r->Q v w'.H
def two(hr:∀x y H Q,(∃w d e r,w.H=H/\TopV cl w x d/\TopV cl w y e/\gg d e=some r/\∀v w',Grow w w'->Shd cl w' v r->Q v w'.H)->r2 x y H Q)(σ:St)(H:Hp)(Q:VK)(q:tE cl E (zal gg f h) σ H Q):tOp r2 (tH cl E f) (tH cl E h) σ H Q:=by
 obtain ⟨B,w,ρ,S,rfl,R,q⟩:=q;refine ⟨B,w,ρ,S,rfl,R,?_⟩;unfold zal at q
 cases hf:f ρ S with
 | bad=>rwa [hf] at q
 | exc c S1=>rwa [hf] at q
 | ok d S1 =>
  rw [hf] at q;intro v w1 R1 F1 h1;refine ⟨B,w1,ρ,S1,rfl,R1,?_⟩;dsimp only [Out.bind] at q
  cases hh:h ρ S1 with
  | bad=>rwa [hh] at q
  | exc c S2=>rw [hh] at q;exact fun w2 R2 F2=>q w2 R2 (F1.trans F2)
  | ok e S2 =>
   rw [hh] at q;intro y w2 R2 F2 h2;dsimp only at q
   cases hg:gg d e with
   | none=>rw [hg] at q;exact q.elim
   | some r =>
    rw [hg] at q;exact hr _ _ _ _ ⟨w2,d,e,r,rfl,(h1.up F2).top R2,h2.top R2,hg,fun v' w' gr sh=>q v' w' (R2.grow gr) (F1.trans (F2.trans gr.fut)) sh⟩
def ziD(ho:OpD X cl (binaryOp op) gg)(ha:PE X a (tH cl E f))(hb:PE X b (tH cl E h)):PE X (.BinOp a op b pos) (tE cl E (zal gg f h)) :=
 PE.imp (zpT ho ha hb) (two fun _ _ _ _ z=>z)
def zpx(ho:IxD X cl gg)(ha:PE X a (tH cl E f))(hb:PE X b (tH cl E h))(hs:zeR b):PE X (.Subscript a b pos) (tE cl E (zal gg f h)) :=
 PE.imp (zpY ho ha hb hs) (two fun _ _ _ _ z=>z)
def zpz(ho:OpD X cl (compareOp op) gg)(ha:PE X a (tH cl E f))(hb:PE X b (tH cl E h))(hm:behindInMarks op b=false):PE X (.Compare a [op] [b] pos) (tE cl E (zal gg f h)) :=
 PE.imp (zi1 ho ha hb hm) (two fun _ _ _ _ z=>z)
def zsu(ho:UnD X cl (unaryOp op) gg)(ha:PE X a (tH cl E f)):PE X (.UnaryOp op a pos) (tE cl E (eUn gg f)):=by
 refine PE.imp (zsJ ho ha) ?_;rintro σ H Q ⟨B,w,ρ,S,rfl,R,q⟩;refine ⟨B,w,ρ,S,rfl,R,?_⟩;unfold eUn at q
 cases hf:f ρ S with
 | bad=>rwa [hf] at q
 | exc c S1=>rwa [hf] at q
 | ok d S1 =>
  rw [hf] at q;intro v w1 R1 F1 h1;dsimp only [Out.bind] at q
  cases hg:gg d with
  | none=>rw [hg] at q;exact q.elim
  | some r =>
   rw [hg] at q;exact ⟨w1,d,r,rfl,h1.top R1,hg,fun v' w' gr sh=>q v' w' (R1.grow gr) (F1.trans gr.fut) sh⟩
noncomputable def tTr(cl:Cf)(E:St->XK)(f:Fe):TT:=fun σ H Q=>∃B w ρ S,w.H=H/\Rel cl B σ w ρ S/\match f ρ S with
 | .ok d S'=>match isB d with
  | some b=>∀w',Rel cl B σ w' ρ S'->Fut w w'->Q b w'.H
  | none=>False
 | .exc c S'=>∀w',Rel cl B σ w' ρ S'->Fut w w'->E σ (.ref (cl c)) none w'.H
 | .bad=>False
def zb0{d:D}{b:Bool}(h:isB d=some b):d=.bl b:=by
 cases d<;>simp [isB] at h
 subst h;rfl
def ze3{w:Wd}{v:V}{b:Bool}(h:Shd cl w v (.bl b)):v=.bl b:=by cases h;rfl
def zgE(q:tTr cl E f σ H Q):tB (tE cl E f) σ H Q:=by
 obtain ⟨B,w,ρ,S,rfl,R,q⟩:=q;refine ⟨B,w,ρ,S,rfl,R,?_⟩
 cases hf:f ρ S with
 | bad=>rwa [hf] at q
 | exc c S1=>rwa [hf] at q
 | ok d S1 =>
  rw [hf] at q;intro v w1 R1 F1 h1;dsimp only at q
  cases hb:isB d with
  | none=>rw [hb] at q;exact q.elim
  | some b =>
   rw [hb] at q;rw [zb0 hb] at h1;exact ⟨b,ze3 h1,q w1 R1 F1⟩
def zaz(h:PE X e (tE cl E f))(he:∀whole,isTrue e X.env whole=(do let v ← whole;standAt e.pos;holding [v] (truthy v))):PT X e (tTr cl E f) :=
 PT.imp (zpL h he) fun _ _ _ q=>zgE q
def zij(hr:∀x y H Q,(∃w d e r,w.H=H/\TopV cl w x d/\TopV cl w y e/\gg d e=some r/\∀v w',Grow w w'->Shd cl w' v r->Q v w'.H)->r2 x y H Q)(q:tTr cl E (zal gg f h) σ H Q):zmR (tOp r2 (tH cl E f) (tH cl E h)) σ H Q :=
 two hr σ H _ (zgE q)
def zl1(ho:OpD X cl (compareOp op) gg)(ha:PE X a (tH cl E f))(hb:PE X b (tH cl E h))(hm:behindInMarks op b=false):PT X (.Compare a [op] [b] pos) (tTr cl E (zal gg f h)) :=
 PT.imp (ziK ho ha hb hm) fun _ _ _ q=>zij (fun _ _ _ _ z=>z) q
def PW.imp(h:PW X e t)(i:∀σ H Q,t' σ H Q->t σ H Q):PW X e t':=fun whole pins s σ H Q I q=>h whole pins s σ H Q I (i _ _ _ q)
def zmQ(q:tTr cl E (zhc f h) σ H Q):zuz (tTr cl E f) (tTr cl E h) σ H Q:=by
 obtain ⟨B,w,ρ,S,rfl,R,q⟩:=q;refine ⟨B,w,ρ,S,rfl,R,?_⟩;unfold zhc at q
 cases hf:f ρ S with
 | bad=>rwa [hf] at q
 | exc c S1=>rwa [hf] at q
 | ok d S1 =>
  rw [hf] at q;dsimp only [Out.bind] at q ⊢
  cases hb:isB d with
  | none=>rw [hb] at q;exact q.elim
  | some b =>
   rw [hb] at q;intro w1 R1 F1
   cases b with
   | false=>exact zli (q w1 R1 F1)
   | true =>
    refine zlh ⟨B,w1,ρ,S1,rfl,R1,?_⟩;dsimp only at q
    cases hh:h ρ S1 with
    | bad=>rwa [hh] at q
    | exc c S2=>rw [hh] at q;exact fun w2 R2 F2=>q w2 R2 (F1.trans F2)
    | ok e S2 =>
     rw [hh] at q;dsimp only at q ⊢
     cases hb2:isB e with
     | none=>rw [hb2] at q;exact q.elim
     | some b2=>rw [hb2] at q;exact fun w2 R2 F2=>q w2 R2 (F1.trans F2)
def zoZ(q:tTr cl E (eOr f h) σ H Q):tOr (tTr cl E f) (tTr cl E h) σ H Q:=by
 obtain ⟨B,w,ρ,S,rfl,R,q⟩:=q;refine ⟨B,w,ρ,S,rfl,R,?_⟩;unfold eOr at q
 cases hf:f ρ S with
 | bad=>rwa [hf] at q
 | exc c S1=>rwa [hf] at q
 | ok d S1 =>
  rw [hf] at q;dsimp only [Out.bind] at q ⊢
  cases hb:isB d with
  | none=>rw [hb] at q;exact q.elim
  | some b =>
   rw [hb] at q;intro w1 R1 F1
   cases b with
   | true=>exact zlh (q w1 R1 F1)
   | false =>
    refine zli ⟨B,w1,ρ,S1,rfl,R1,?_⟩;dsimp only at q
    cases hh:h ρ S1 with
    | bad=>rwa [hh] at q
    | exc c S2=>rw [hh] at q;exact fun w2 R2 F2=>q w2 R2 (F1.trans F2)
    | ok e S2 =>
     rw [hh] at q;dsimp only at q ⊢
     cases hb2:isB e with
     | none=>rw [hb2] at q;exact q.elim
     | some b2=>rw [hb2] at q;exact fun w2 R2 F2=>q w2 R2 (F1.trans F2)
def zmP(q:tTr cl E (eUn zfV f) σ H Q):zux (tTr cl E f) σ H Q:=by
 obtain ⟨B,w,ρ,S,rfl,R,q⟩:=q;refine ⟨B,w,ρ,S,rfl,R,?_⟩;unfold eUn at q
 cases hf:f ρ S with
 | bad=>rwa [hf] at q
 | exc c S1=>rwa [hf] at q
 | ok d S1 =>
  rw [hf] at q;dsimp only [Out.bind] at q ⊢
  cases hb:isB d with
  | none =>
   have:zfV d=none:=by cases d<;>simp [isB] at hb<;>rfl
   rw [this] at q;exact q.elim
  | some b =>
   rwa [zb0 hb] at q
def zl0(ha:PT X a (tTr cl E f)):PT X (.UnaryOp .Not a pos) (tTr cl E (eUn zfV f)):=PT.imp (zpM ha) fun _ _ _ q=>zmP q
def zo9{za9:List Expr}(ha:PT X a (tTr cl E f))(hb:PW X (.BoolOp .And (b::za9) pos) (tTr cl E h)):PW X (.BoolOp .And (a::b::za9) pos) (tTr cl E (zhc f h)):=PW.imp (zpI ha hb) fun _ _ _ q=>zmQ q
def zo8{za9:List Expr}(ha:PT X a (tTr cl E f))(hb:PW X (.BoolOp .Or (b::za9) pos) (tTr cl E h)):PW X (.BoolOp .Or (a::b::za9) pos) (tTr cl E (eOr f h)):=PW.imp (zsG ha hb) fun _ _ _ q=>zoZ q
def zpA{za9:List Expr}(ha:PE X a (tE cl E f))(hb:PE X (.BoolOp .And (b::za9) pos) (tE cl E h)):PE X (.BoolOp .And (a::b::za9) pos) (tE cl E (zhc f h)):=by
 refine PE.imp (zp0 ha hb) ?_;rintro σ H Q ⟨B,w,ρ,S,rfl,R,q⟩;refine ⟨B,w,ρ,S,rfl,R,?_⟩;unfold zhc at q
 cases hf:f ρ S with
 | bad=>rwa [hf] at q
 | exc c S1=>rwa [hf] at q
 | ok d S1 =>
  rw [hf] at q;intro v w1 R1 F1 h1;dsimp only [Out.bind] at q
  cases hb:isB d with
  | none=>rw [hb] at q;exact q.elim
  | some b =>
   rw [hb] at q;rw [zb0 hb] at h1;refine ⟨b,ze3 h1,?_⟩
   cases b with
   | false=>exact zli (q _ w1 R1 F1 (.bl false))
   | true =>
    refine zlh ⟨B,w1,ρ,S1,rfl,R1,?_⟩;dsimp only at q
    cases hh:h ρ S1 with
    | bad=>rwa [hh] at q
    | exc c S2=>rw [hh] at q;exact fun w2 R2 F2=>q w2 R2 (F1.trans F2)
    | ok e S2=>rw [hh] at q;exact fun v w2 R2 F2=>q v w2 R2 (F1.trans F2)
def zsv{za9:List Expr}(ha:PE X a (tE cl E f))(hb:PE X (.BoolOp .Or (b::za9) pos) (tE cl E h)):PE X (.BoolOp .Or (a::b::za9) pos) (tE cl E (eOr f h)):=by
 refine PE.imp (zsK ha hb) ?_;rintro σ H Q ⟨B,w,ρ,S,rfl,R,q⟩;refine ⟨B,w,ρ,S,rfl,R,?_⟩;unfold eOr at q
 cases hf:f ρ S with
 | bad=>rwa [hf] at q
 | exc c S1=>rwa [hf] at q
 | ok d S1 =>
  rw [hf] at q;intro v w1 R1 F1 h1;dsimp only [Out.bind] at q
  cases hb:isB d with
  | none=>rw [hb] at q;exact q.elim
  | some b =>
   rw [hb] at q;rw [zb0 hb] at h1;refine ⟨b,ze3 h1,?_⟩
   cases b with
   | true=>exact zlh (q _ w1 R1 F1 (.bl true))
   | false =>
    refine zli ⟨B,w1,ρ,S1,rfl,R1,?_⟩;dsimp only at q
    cases hh:h ρ S1 with
    | bad=>rwa [hh] at q
    | exc c S2=>rw [hh] at q;exact fun w2 R2 F2=>q w2 R2 (F1.trans F2)
    | ok e S2=>rw [hh] at q;exact fun v w2 R2 F2=>q v w2 R2 (F1.trans F2)
def zpv(ha:PE X a (tE cl E f)):PE X (.UnaryOp .Not a pos) (tE cl E (eUn zfV f)):=by
 refine PE.imp (zpV ha) ?_;rintro σ H Q ⟨B,w,ρ,S,rfl,R,q⟩;refine ⟨B,w,ρ,S,rfl,R,?_⟩;unfold eUn at q
 cases hf:f ρ S with
 | bad=>rwa [hf] at q
 | exc c S1=>rwa [hf] at q
 | ok d S1 =>
  rw [hf] at q;intro v w1 R1 F1 h1;dsimp only [Out.bind] at q
  cases hb:isB d with
  | none =>
   have:zfV d=none:=by cases d<;>simp [isB] at hb<;>rfl
   rw [this] at q;exact q.elim
  | some b =>
   rw [zb0 hb] at q h1;exact ⟨b,ze3 h1,q _ w1 R1 F1 (.bl _)⟩
def zsk(q:tE cl E (eIf g f h) σ H Q):tIf (tTr cl E g) (tE cl E f) (tE cl E h) σ H Q:=by
 obtain ⟨B,w,ρ,S,rfl,R,q⟩:=q;refine ⟨B,w,ρ,S,rfl,R,?_⟩;unfold eIf at q
 cases hg:g ρ S with
 | bad=>rwa [hg] at q
 | exc c S1=>rwa [hg] at q
 | ok d S1 =>
  rw [hg] at q;dsimp only [Out.bind] at q ⊢
  cases hb:isB d with
  | none=>rw [hb] at q;exact q.elim
  | some b =>
   rw [hb] at q;intro w1 R1 F1
   cases b with
   | true =>
    refine zlh ⟨B,w1,ρ,S1,rfl,R1,?_⟩;dsimp only at q
    cases hh:f ρ S1 with
    | bad=>rwa [hh] at q
    | exc c S2=>rw [hh] at q;exact fun w2 R2 F2=>q w2 R2 (F1.trans F2)
    | ok e S2=>rw [hh] at q;exact fun v w2 R2 F2=>q v w2 R2 (F1.trans F2)
   | false =>
    refine zli ⟨B,w1,ρ,S1,rfl,R1,?_⟩;dsimp only at q
    cases hh:h ρ S1 with
    | bad=>rwa [hh] at q
    | exc c S2=>rw [hh] at q;exact fun w2 R2 F2=>q w2 R2 (F1.trans F2)
    | ok e S2=>rw [hh] at q;exact fun v w2 R2 F2=>q v w2 R2 (F1.trans F2)
def zsx(hc:PT X c (tTr cl E g))(ha:PE X a (tE cl E f))(hb:PE X b (tE cl E h)):PE X (.IfExp c a b pos) (tE cl E (eIf g f h)):=PE.imp (zkP hc ha hb) fun _ _ _ q=>zsk q
def zbh:PA X [] (tAs cl E []):=by
 refine PA.imp zaV ?_;rintro σ H Q ⟨B,w,ρ,S,rfl,R,q⟩;exact q [] w R (Fut.refl _) .nil
def zak(ha:PE X e (tE cl E f))(hr:PA X es (tAs cl E fs))(hs:starEach (e::es) X.env=(false,eval e X.env)::starEach es X.env):PA X (e::es) (tAs cl E (f::fs)):=by
 refine PA.imp (zat ha hr hs) ?_;rintro σ H Q ⟨B,w,ρ,S,rfl,R,q⟩;refine ⟨B,w,ρ,S,rfl,R,?_⟩;unfold zag at q
 cases hf:f ρ S with
 | bad=>rwa [hf] at q
 | exc c S1=>rwa [hf] at q
 | ok d S1 =>
  rw [hf] at q;intro v w1 R1 F1 h1;refine ⟨B,w1,ρ,S1,rfl,R1,?_⟩;dsimp only [Out.bind] at q
  cases hh:zag fs ρ S1 with
  | bad=>rwa [hh] at q
  | exc c S2=>rw [hh] at q;exact fun w2 R2 F2=>q w2 R2 (F1.trans F2)
  | ok ds S2 =>
   rw [hh] at q;exact fun vs w2 R2 F2 h2=>q _ w2 R2 (F1.trans F2) (.cons (h1.up F2) h2)
def ziy:PA X [] (tHs cl E []):=by
 refine PA.imp zaV ?_;rintro σ H Q ⟨B,w,ρ,S,rfl,R,q⟩;exact q [] w R (Fut.refl _) .nil
def zf4(ha:PE X e (tH cl E f))(hr:PA X es (tHs cl E fs))(hs:starEach (e::es) X.env=(false,eval e X.env)::starEach es X.env):PA X (e::es) (tHs cl E (f::fs)):=by
 refine PA.imp (zat ha hr hs) ?_;rintro σ H Q ⟨B,w,ρ,S,rfl,R,q⟩;refine ⟨B,w,ρ,S,rfl,R,?_⟩;unfold zag at q
 cases hf:f ρ S with
 | bad=>rwa [hf] at q
 | exc c S1=>rwa [hf] at q
 | ok d S1 =>
  rw [hf] at q;intro v w1 R1 F1 h1;refine ⟨B,w1,ρ,S1,rfl,R1,?_⟩;dsimp only [Out.bind] at q
  cases hh:zag fs ρ S1 with
  | bad=>rwa [hh] at q
  | exc c S2=>rw [hh] at q;exact fun w2 R2 F2=>q w2 R2 (F1.trans F2)
  | ok ds S2 =>
   rw [hh] at q;exact fun vs w2 R2 F2 h2=>q _ w2 R2 (F1.trans F2) (.cons (h1.up F2) h2)
def zpt(h:PA X es (tAs cl E fs)):PE X (.Tuple es k pos) (tE cl E (za5 fs)):=by
 refine PE.imp (ziY h) ?_;rintro σ H Q ⟨B,w,ρ,S,rfl,R,q⟩;refine ⟨B,w,ρ,S,rfl,R,?_⟩;unfold za5 at q
 cases hf:zag fs ρ S with
 | bad=>rwa [hf] at q
 | exc c S1=>rwa [hf] at q
 | ok ds S1 =>
  rw [hf] at q;intro vs w1 R1 F1 h1;dsimp only [Out.bind] at q
  cases hz:small ds.length with
  | false=>rw [hz,if_neg (by decide)] at q;exact q.elim
  | true =>
   rw [hz,if_pos rfl] at q;refine ⟨by rw [h1.length];exact zav hz,fun p hp=>?_⟩;exact q _ (w1.add p (.tup vs)) (R1.grow (zah hp _)) (F1.trans (zah hp _).fut) (Shd.newT hp h1)
def zgN(h:PA X es (tAs cl E fs)):PE X (.List es pos) (tN cl E (zc6 fs)):=by
 refine PE.imp (zi0 h) ?_;rintro σ H Q ⟨B,w,ρ,S,rfl,R,q⟩;refine ⟨B,w,ρ,S,rfl,R,?_⟩;unfold zc6 at q
 cases hf:zag fs ρ S with
 | bad=>rwa [hf] at q
 | exc c S1=>rwa [hf] at q
 | ok ds S1 =>
  rw [hf] at q;intro vs w1 R1 F1 h1;dsimp only [Out.bind] at q
  cases hz:small ds.length with
  | false=>rw [hz,if_neg (by decide)] at q;exact q.elim
  | true =>
   rw [hz,if_pos rfl] at q;refine ⟨by rw [h1.length];exact zav hz,fun p hp=>?_⟩;exact q _ (.lst vs) w1 R1 F1 hp (.lst h1)
def zo5(hr:∀xs H Q,(∃w ds r,w.H=H/\zka cl w xs ds/\gg ds=some r/\∀v w',Grow w w'->Shd cl w' v r->Q v w'.H)->r xs H Q)(q:tE cl E (zaZ gg fs) σ H Q):tCB r (tHs cl E fs) σ H Q:=by
 obtain ⟨B,w,ρ,S,rfl,R,q⟩:=q;refine ⟨B,w,ρ,S,rfl,R,?_⟩;unfold zaZ at q
 cases hf:zag fs ρ S with
 | bad=>rwa [hf] at q
 | exc c S1=>rwa [hf] at q
 | ok ds S1 =>
  rw [hf] at q;intro vs w1 R1 F1 h1;dsimp only [Out.bind] at q
  cases hg:gg ds with
  | none=>rw [hg] at q;exact q.elim
  | some d =>
   rw [hg] at q;exact hr _ _ _ ⟨w1,ds,d,rfl,h1.top R1,hg,fun v w' gr sh=>q v w' (R1.grow gr) (F1.trans gr.fut) sh⟩
def zsn(hr:∀xs H Q,(∃w ds r,w.H=H/\zka cl w xs ds/\gg ds=some r/\∀p o w',Grow w w'->w'.H p=none->Top cl w' o r->Q (.ref p) (upd w'.H p o))->r xs H Q)(q:tN cl E (zaZ gg fs) σ H Q):tCB r (tHs cl E fs) σ H Q:=by
 obtain ⟨B,w,ρ,S,rfl,R,q⟩:=q;refine ⟨B,w,ρ,S,rfl,R,?_⟩;unfold zaZ at q
 cases hf:zag fs ρ S with
 | bad=>rwa [hf] at q
 | exc c S1=>rwa [hf] at q
 | ok ds S1 =>
  rw [hf] at q;intro vs w1 R1 F1 h1;dsimp only [Out.bind] at q
  cases hg:gg ds with
  | none=>rw [hg] at q;exact q.elim
  | some d =>
   rw [hg] at q;exact hr _ _ _ ⟨w1,ds,d,rfl,h1.top R1,hg,fun p o w' gr hp t=>q p o w' (R1.grow gr) (F1.trans gr.fut) hp t⟩
end
noncomputable def Root.out:Option Root->Option Root | some (.slot _)=>some .far | o=>o
def Root.out_none:Root.out o=none↔o=none:=by
 cases o with
 | none=>exact ⟨fun h=>h,fun h=>h⟩
 | some r=>cases r<;>simp [Root.out]
noncomputable def zcv:Option Root->Bool | some (.fld _ _)=>true | some (.obj _)=>true | some .tab=>true | _=>false
def Wd.inn(w:Wd):Wd:=⟨w.H,fun a=>Root.out (w.ow a),w.mu⟩
def Wd.base(w:Wd):Base:=⟨fun a=>if zcv (w.ow a)=true then none else w.H a,fun a=>Root.out (w.ow a)⟩
def Wd.back(w w':Wd):Wd:=⟨w'.H,fun a=>if (w.base.Fr a).isSome=true then w.ow a else Root.out (w'.ow a),w'.mu⟩
def za6(w:Wd):Fut w w.inn:=⟨fun a o h k=>⟨h,by show Root.out (w.ow a)=none;rw [k];rfl⟩,fun _ _ h=>h⟩
def zfP{w:Wd}(h:w.H a=some o)(k:zcv (w.ow a)=false):w.base.Fr a=some o:=by
 show (if zcv (w.ow a)=true then none else w.H a)=_;rw [k,if_neg (by decide)];exact h
def znP{w:Wd}(h:w.base.Fr a=some o):w.H a=some o/\zcv (w.ow a)=false:=by
 have h':(if zcv (w.ow a)=true then none else w.H a)=some o:=h;split at h'
 ·cases h'
 ·rename_i z;exact ⟨h',by simpa using z⟩
section
variable{cl:Cf}{B:Base}{σ:St}{w w':Wd}{ρ:Env}{S S':Sto}
def World'.enter(W:World' cl B w S):World' cl w.base w.inn S where
 fr:=fun a o h=>⟨(znP h).1,rfl⟩
 own:=fun a r h=>by
  have h':Root.out (w.ow a)=some r:=h
  cases e:w.ow a with
  | none=>rw [e] at h';cases h'
  | some q =>
   cases q with
   | slot i=>rw [e] at h';cases h';exact .inl rfl
   | far=>rw [e] at h';cases h';exact .inl rfl
   | fld n f=>exact .inr (by show (if zcv (w.ow a)=true then none else w.H a)=none;rw [e];rfl)
   | obj n=>exact .inr (by show (if zcv (w.ow a)=true then none else w.H a)=none;rw [e];rfl)
   | tab=>exact .inr (by show (if zcv (w.ow a)=true then none else w.H a)=none;rw [e];rfl)
 len:=W.len
 obj:=fun n ob h=>by
  obtain ⟨a,e,x⟩:=W.obj n ob h;refine ⟨a,e,x.keep (za6 w) fun a o ha hn=>⟨ha,?_⟩⟩;show Root.out (w.ow a)=w.ow a
  cases e:w.ow a with
  | none=>rfl
  | some q=>cases q with
   | slot i=>rw [e] at hn;exact hn.elim
   | _=>rfl
 tab:=W.tab.keep (za6 w) fun P ps h1 h2=>⟨h1,by show Root.out (w.ow P)=_;rw [h2];rfl⟩
def zbA(W:World' cl B w S)(h:B.Fr a=some o):w.base.Fr a=some o:=by
 refine zfP (W.fr a o h).1 ?_
 cases e:w.ow a with
 | none=>rfl
 | some q =>
  rcases W.own a q e with rfl | z
  ·rfl
  ·rw [h] at z;cases z
def zbj(W':World' cl w.base w' S'):Fut w' (w.back w') where
 keep:=fun a o h k=>by
  refine ⟨h,?_⟩;show (if (w.base.Fr a).isSome=true then w.ow a else Root.out (w'.ow a))=none;split
  ·rename_i z;obtain ⟨u,hu⟩:=Option.isSome_iff_exists.mp z;have:=(W'.fr a u hu).2;rw [k] at this;exact Root.out_none.mp this.symm
  ·rw [k];rfl
 mu:=fun _ _ h=>h
def Rel.leave(R:Rel cl B σ w ρ S)(W':World' cl w.base w' S')(F:Fut w.inn w'):Rel cl B σ (w.back w') ρ S'/\Fut w (w.back w'):=by
 have fb:=zbj W';have ff:Fut w (w.back w'):=(za6 w).trans (F.trans fb)
 have in_:∀a o,w.base.Fr a=some o->(w.back w').H a=some o/\(w.back w').ow a=w.ow a:=fun a o h=>by
  refine ⟨(W'.fr a o h).1,?_⟩;show (if (w.base.Fr a).isSome=true then w.ow a else _)=_;rw [h];rfl
 refine ⟨⟨⟨fun a o h=>?_,fun a r h=>?_,W'.len,fun n ob h=>?_,fun P q h=>?_⟩,R.len,fun i o d h=>?_⟩,ff⟩
 ·have:=in_ a o (zbA R.wd h);exact ⟨this.1,this.2.trans (R.wd.fr a o h).2⟩
 ·cases hb:B.Fr a with
  | none=>exact .inr rfl
  | some o =>
   have:=(in_ a o (zbA R.wd hb)).2;rw [h] at this
   rcases R.wd.own a r this.symm with z | z
   ·exact .inl z
   ·rw [hb] at z;cases z
 ·obtain ⟨a,e,x⟩:=W'.obj n ob h;refine ⟨a,e,x.keep fb fun a o ha hn=>⟨ha,?_⟩⟩;show (if (w.base.Fr a).isSome=true then w.ow a else Root.out (w'.ow a))=_
  cases e:w'.ow a with
  | none=>rw [e] at hn;exact hn.elim
  | some q =>
   rcases W'.own a q e with rfl | z
   ·rw [e] at hn;exact hn.elim
   ·rw [z]
    cases q with
    | slot i=>rw [e] at hn;exact hn.elim
    | _=>rfl
 ·obtain ⟨ps,h1,h2,h3⟩:=W'.tab P q h;obtain ⟨_,_,g2,_⟩:=R.wd.tab P q h;refine ⟨ps,h1,?_,h3.up fb⟩
  have hb:w.base.Fr P=none:=by show (if zcv (w.ow P)=true then none else w.H P)=none;rw [g2];rfl
  show (if (w.base.Fr P).isSome=true then w.ow P else Root.out (w'.ow P))=_;rw [hb,h2];rfl
 ·obtain ⟨v,e,x⟩:=R.slots i o d h;refine ⟨v,e,x.keep ff fun a u ha hr=>?_⟩;have:=in_ a u (zfP ha (by rw [hr];rfl));exact ⟨this.1,this.2.trans hr⟩
noncomputable def Wd.del(w:Wd)(a:Addr):Wd:=⟨fun b=>if b=a then none else w.H b,w.ow,w.mu⟩
def zgj(k:w.ow a≠none):Fut w (w.del a) where
 keep:=fun b o h e=>⟨by
  show (if b=a then none else w.H b)=_
  rw [if_neg (fun z=>k (by rw [<-z];exact e))];exact h,e⟩
 mu:=fun _ _ h=>h
def zie(h:w.H a=some o):upd (w.del a).H a o=w.H:=by
 funext b
 by_cases e:b=a
 ·rw [e,zaj,h]
 ·rw [zad e];show (if b=a then none else w.H b)=_;rw [if_neg e]
theorem Rel.del(R:Rel cl B σ w ρ S)(k:w.ow a=some .far)(hb:B.Fr a=none):Rel cl B σ (w.del a) ρ S:=by
 have fd:Fut w (w.del a):=zgj (by rw [k];exact yat _)
 have kp:∀b o,w.H b=some o->b≠a->(w.del a).H b=some o:=fun b o h n=>by
  show (if b=a then none else w.H b)=_;rw [if_neg n];exact h
 refine ⟨⟨fun b o h=>⟨kp b o (R.wd.fr b o h).1 (fun z=>by rw [z,hb] at h;cases h),(R.wd.fr b o h).2⟩,R.wd.own,R.wd.len,fun n ob h=>?_,R.wd.tab.keep fd fun P ps h1 h2=>⟨kp P _ h1 (fun z=>by rw [z,k] at h2;cases h2),h2⟩⟩,R.len,fun i o d h=>?_⟩
 ·obtain ⟨c,e,x⟩:=R.wd.obj n ob h;exact ⟨c,e,x.keep fd fun b o hb' hn=>⟨kp b o hb' (fun z=>by rw [z,k] at hn;exact hn.elim),rfl⟩⟩
 ·obtain ⟨v,e,x⟩:=R.slots i o d h;exact ⟨v,e,x.keep fd fun b o hb' hr=>⟨kp b o hb' (fun z=>by rw [z,k] at hr;cases hr),hr⟩⟩
end
noncomputable def zvJ(cl:Cf)(w:Wd):Bool->V->D->Prop
 | false,v,d=>Shd cl w v d
 | true,v,d=>∃a o i,v=.ref a/\w.ow a=some (.slot i)/\w.H a=some o/\Top cl w o d
noncomputable def zfU(cl:Cf)(n:Nat)(own:Bool)(G:List D->Sto->Out D):Sp:=fun vs H Q E=>vs.length=n/\∃B w ds S,w.H=H/\World' cl B w S/\Shds cl w vs ds/\match G ds S with
 | .ok d S'=>∀v w',World' cl B w' S'->Fut w w'->zvJ cl w' own v d->Q v w'.H
 | .exc c S'=>∀w',World' cl B w' S'->Fut w w'->E (.ref (cl c)) none w'.H
 | .bad=>False
noncomputable def zbW(CX:CXT)(X:Cx)(E:St->XK):Prop:=∀(pins:Z3) (σ:St) (H:Hp) (s:Shared) (e:Value) (s':Shared),Inv X pins σ H s->CX X.stack H s (E σ) e s'->X.xe e s'
noncomputable def zeY(sp:Sp)(dvs:List V)(E:St->XK)(t:TA):TE:=fun σ H Q=>t σ H fun vs H1=>sp (vs++dvs) H1 Q (E σ)
section
variable{X:Cx}{CX:CXT}{k:Nat}{f C:Addr}{fd:FuncData}{ps:List Str}{sp:Sp}{dvs:List V}{ds:List Value}{E:St->XK}{x m:Str}{p pos apos:Pos}{e o:Expr}{es:List Expr}{ta:TE}{t:TA}
def zeo(F:FnOk X.prog X.w X.K X.mg X.base CX k f fd ps sp)(hr:Room k X.A)(hb:zb5 X.K fd ps ds)(hd:Vals dvs ds)(hx:zbW CX X E)
  (I:Inv X pins σ H s) (r:Vals vs us) (h:sp (vs++dvs) H Q (E σ)):wpAny (model X.prog X.w) X.A (call (.ref f) us) (EP X pins σ Q) X.xe s:=by
 have r2:Vals (vs++dvs) (us++ds):=r.append hd
 have hl:(us++ds).length=ps.length:=by rw [<-r2.length];exact F.len _ _ _ _ h
 refine ycV (ybB (F.run X.A X.stack s H ⟨us,[]⟩ (us++ds) (vs++dvs) Q (E σ) hr I.env0 (hb s us I.kIn hl) r2 h) fun r s' hq=>?_)
 cases r with
 | error e=>exact hx pins σ H s e s' I hq
 | ok fl =>
  cases fl with
  | ret u=>exact I.after hq
  | next=>exact False.elim hq
  | brk=>exact False.elim hq
  | cont=>exact False.elim hq
def zkV(F:FnOk X.prog X.w X.K X.mg X.base CX k f fd ps sp)(hr:Room k X.A)(hg:Gl X x)(hm:X.mg x=some (.ref f))(hk:PySem.W.keepIn X.K (.ref f)=true)(hb:zb5 X.K fd ps ds)(hd:Vals dvs ds)(hx:zbW CX X E)
  (ha:PA X (e::es) t) (hdb:(x == ("__debug__":Str))=false) (he:starEach (e::es) X.env=(false,eval e X.env)::starEach es X.env) (hpl:(backTo pos (starEach es X.env)).any (·.1)=false) :
  PE X (.Call (.Name x p) (e::es) [] pos) (zeY sp dvs E t):=by
 intro pins s σ H Q I h;refine ya9 (zbQ I hg hm ?_ hdb);refine yb1 (h₀:=X.base) I.ok.mod.kin hk (thn (ha pos pins s σ H _ I h) fun us s1 ⟨vs,H1,I1,r,q⟩=>⟨I1.kIn,?_⟩) he hpl;exact zeo F hr hb hd hx I1 r q
def zi2(F:FnOk X.prog X.w X.K X.mg X.base CX k f fd ps sp)(hr:Room k X.A)(hg:Gl X x)(hm:X.mg x=some (.ref f))(hk:PySem.W.keepIn X.K (.ref f)=true)(hb:zb5 X.K fd ps ds)(hd:Vals dvs ds)(hx:zbW CX X E)
  (hdb:(x == ("__debug__":Str))=false):PE X (.Call (.Name x p) [] [] pos) (zeY sp dvs E zrC):=by
 intro pins s σ H Q I h;refine ya9 (zbQ I hg hm ?_ hdb);exact PySem.W.callWith_K0 I.kIn hk (zeo (us:=[]) F hr hb hd hx I .nil h)
end
def eFn(G:List D->Sto->Out D)(fs:List Fe):Fe:=fun ρ S=>(zag fs ρ S).bind fun ds S1=>G ds S1
section
variable{cl:Cf}{E:St->XK}{fs:List Fe}{G:List D->Sto->Out D}{σ:St}{H:Hp}{Q:VK}{n:Nat}
def zrj(q:tE cl E (eFn G fs) σ H Q)(hn:fs.length=n):zeY (zfU cl n false G) [] E (tAs cl E fs) σ H Q:=by
 obtain ⟨B,w,ρ,S,rfl,R,q⟩:=q;refine ⟨B,w,ρ,S,rfl,R,?_⟩;unfold eFn at q
 cases hf:zag fs ρ S with
 | bad=>rwa [hf] at q
 | exc c S1=>rwa [hf] at q
 | ok ds S1 =>
  rw [hf] at q;intro vs w1 R1 F1 h1;dsimp only [Out.bind] at q
  have hl:∀(fs:List Fe) (S S1:Sto) (ds:List D),zag fs ρ S=.ok ds S1->ds.length=fs.length:=by
   intro fs
   induction fs with
   | nil=>intro S S1 ds h;cases h;rfl
   | cons f fs ih =>
    intro S S1 ds h;unfold zag at h
    cases h1:f ρ S with
    | bad=>rw [h1] at h;cases h
    | exc c S2=>rw [h1] at h;cases h
    | ok d S2 =>
     rw [h1] at h;dsimp only [Out.bind] at h
     cases h2:zag fs ρ S2 with
     | bad=>rw [h2] at h;cases h
     | exc c S3=>rw [h2] at h;cases h
     | ok es S3=>rw [h2] at h;cases h;rw [yam,yam,ih S2 _ es h2]
  refine ⟨by rw [yaV,h1.length,hl fs S S1 ds hf];exact hn,w1.base,w1.inn,ds,S1,rfl,R1.wd.enter,by rw [yaV];exact h1.up (za6 w1),?_⟩
  cases hg:G ds S1 with
  | bad=>rwa [hg] at q
  | exc c S2 =>
   rw [hg] at q;intro w2 W2 F2;obtain ⟨R3,F3⟩:=R1.leave W2 F2;exact q (w1.back w2) R3 (F1.trans F3)
  | ok d S2 =>
   rw [hg] at q;intro v w2 W2 F2 r2;obtain ⟨R3,F3⟩:=R1.leave W2 F2;exact q v (w1.back w2) R3 (F1.trans F3) (Shd.up (zbj W2) r2)
def zri(q:tN cl E (eFn G fs) σ H Q)(hn:fs.length=n):zeY (zfU cl n true G) [] E (tAs cl E fs) σ H Q:=by
 obtain ⟨B,w,ρ,S,rfl,R,q⟩:=q;refine ⟨B,w,ρ,S,rfl,R,?_⟩;unfold eFn at q
 cases hf:zag fs ρ S with
 | bad=>rwa [hf] at q
 | exc c S1=>rwa [hf] at q
 | ok ds S1 =>
  rw [hf] at q;intro vs w1 R1 F1 h1;dsimp only [Out.bind] at q
  have hl:∀(fs:List Fe) (S S1:Sto) (ds:List D),zag fs ρ S=.ok ds S1->ds.length=fs.length:=by
   intro fs
   induction fs with
   | nil=>intro S S1 ds h;cases h;rfl
   | cons f fs ih =>
    intro S S1 ds h;unfold zag at h
    cases h1:f ρ S with
    | bad=>rw [h1] at h;cases h
    | exc c S2=>rw [h1] at h;cases h
    | ok d S2 =>
     rw [h1] at h;dsimp only [Out.bind] at h
     cases h2:zag fs ρ S2 with
     | bad=>rw [h2] at h;cases h
     | exc c S3=>rw [h2] at h;cases h
     | ok es S3=>rw [h2] at h;cases h;rw [yam,yam,ih S2 _ es h2]
  refine ⟨by rw [yaV,h1.length,hl fs S S1 ds hf];exact hn,w1.base,w1.inn,ds,S1,rfl,R1.wd.enter,by rw [yaV];exact h1.up (za6 w1),?_⟩
  cases hg:G ds S1 with
  | bad=>rwa [hg] at q
  | exc c S2 =>
   rw [hg] at q;intro w2 W2 F2;obtain ⟨R3,F3⟩:=R1.leave W2 F2;exact q (w1.back w2) R3 (F1.trans F3)
  | ok d S2 =>
   rw [hg] at q;intro v w2 W2 F2 r2;obtain ⟨R3,F3⟩:=R1.leave W2 F2;obtain ⟨a,o,i,rfl,k1,k2,t⟩:=r2;have hfr:w1.base.Fr a=none:=(W2.own a _ k1).elim (fun z=>by cases z) fun z=>z
   have k3:(w1.back w2).ow a=some .far:=by
    show (if (w1.base.Fr a).isSome=true then w1.ow a else Root.out (w2.ow a))=_;rw [hfr,k1];rfl
   have hb:B.Fr a=none:=by
    cases z:B.Fr a with
    | none=>rfl
    | some u=>rw [zbA R1.wd z] at hfr;cases hfr
   have hd:=zgj (w:=w1.back w2) (a:=a) (by rw [k3];exact yat _);have:=q a o ((w1.back w2).del a) (R3.del k3 hb) (F1.trans (F3.trans hd)) (if_pos rfl) ((t.up (zbj W2)).up hd);rwa [zie (w:=w1.back w2) k2] at this
end
noncomputable def frz1(ρ:Env)(i:Nat):Env:=match ρ[i]? with | some (some (true,d))=>ρ.set i (some (false,d)) | _=>ρ
def frz(is:List Nat)(ρ:Env):Env:=is.foldl frz1 ρ
def sFz(is:List Nat)(f:Fs):Fs:=fun ρ S=>f (frz is ρ) S
noncomputable def sNx:Fs:=fun ρ S=>.nx ρ S
noncomputable def sBk:Fs:=fun ρ S=>.bk ρ S
noncomputable def zar(f g:Fs):Fs:=fun ρ S=>match f ρ S with | .nx ρ' S'=>g ρ' S' | o=>o
noncomputable def zbL(i:Nat)(own:Bool)(f:Fe):Fs:=fun ρ S=>match f ρ S with | .ok d S'=>.nx (ρ.set i (some (own,d))) S' | .exc c S'=>.ex c ρ S' | .bad=>.bad
noncomputable def zl5(f:Fe):Fs:=fun ρ S=>match f ρ S with | .ok _ S'=>.nx ρ S' | .exc c S'=>.ex c ρ S' | .bad=>.bad
noncomputable def zbJ(f:Fe):Fs:=fun ρ S=>match f ρ S with | .ok d S'=>.rt d S' | .exc c S'=>.ex c ρ S' | .bad=>.bad
noncomputable def zky:Fs:=fun _ S=>.rt .non S
noncomputable def zkx(i:Nat):Fs:=fun ρ S=>match ρ[i]? with | some (some (true,d))=>.rt d S | _=>.bad
def sIf(c:Fe)(f g:Fs):Fs:=fun ρ S=>match c ρ S with | .ok d S'=>(match isB d with | some true=>f ρ S' | some false=>g ρ S' | none=>.bad) | .exc x S'=>.ex x ρ S' | .bad=>.bad
noncomputable def zeQ(cl:Cf)(E:St->XK)(own:Bool)(B:Base)(w:Wd)(De:Ends):Fo->Prop
 | .nx ρ' S'=>∀σ' w',Rel cl B σ' w' ρ' S'->Fut w w'->De.nx σ' w'.H
 | .bk ρ' S'=>∀σ' w',Rel cl B σ' w' ρ' S'->Fut w w'->De.bk σ' w'.H
 | .ct ρ' S'=>∀σ' w',Rel cl B σ' w' ρ' S'->Fut w w'->De.ct σ' w'.H
 | .rt d S'=>∀v w',World' cl B w' S'->Fut w w'->zvJ cl w' own v d->De.rt v w'.H
 | .ex c ρ' S'=>∀σ' w',Rel cl B σ' w' ρ' S'->Fut w w'->E σ' (.ref (cl c)) none w'.H
 | .bad=>False
theorem zeQ.up(f:Fut w w1):∀{o:Fo},zeQ cl E own B w De o->zeQ cl E own B w1 De o
 | .nx _ _,h=>fun σ' w' R F=>h σ' w' R (f.trans F)
 | .bk _ _,h=>fun σ' w' R F=>h σ' w' R (f.trans F)
 | .ct _ _,h=>fun σ' w' R F=>h σ' w' R (f.trans F)
 | .rt _ _,h=>fun v w' R F=>h v w' R (f.trans F)
 | .ex _ _ _,h=>fun σ' w' R F=>h σ' w' R (f.trans F)
 | .bad,h=>h
noncomputable def tS(cl:Cf)(E:St->XK)(own:Bool)(f:Fs):TS:=fun De σ H=>∃B w ρ S,w.H=H/\Rel cl B σ w ρ S/\zeQ cl E own B w De (f ρ S)
def PS.imp{X:Cx}{st:Stmt}{t t':TS}(h:PS X st t)(i:∀De σ H,t' De σ H->t De σ H):PS X st t':=fun pins s σ H De I q=>h pins s σ H De I (i _ _ _ q)
def PSs.imp{X:Cx}{st:List Stmt}{t t':TS}(h:PSs X st t)(i:∀De σ H,t' De σ H->t De σ H):PSs X st t':=fun pins s σ H De I q=>h pins s σ H De I (i _ _ _ q)
section
variable{cl:Cf}{B:Base}{σ:St}{w:Wd}{ρ:Env}{S:Sto}
def Rel.put(R:Rel cl B σ w ρ S)(h:Shd cl w v d):Rel cl B (σ.set i (some v)) w (ρ.set i (some (false,d))) S where
 wd:=R.wd
 len:=by rw [yaD,yaD];exact R.len
 slots:=fun j o e hj=>by
  by_cases hij:i=j
  ·subst hij
   have hlt:i<ρ.length:=by
    have:=(yai.mp hj).1;rwa [yaD] at this
   rw [yay hlt] at hj;cases hj;exact ⟨v,by rw [yay (by rw [R.len];exact hlt)],h⟩
  ·rw [yaQ hij] at hj ⊢;exact R.slots j o e hj
def Wd.addAs(w:Wd)(p:Addr)(o:HO)(r:Root):Wd:=⟨upd w.H p o,fun a=>if a=p then some r else if w.ow a=some r then some .far else w.ow a,w.mu⟩
def zaE(h:w.H p=none):Fut w (w.addAs p o r) where
 keep:=fun a u ha hk=>by
  have n:a≠p:=zam ha h;refine ⟨?_,?_⟩
  ·show upd w.H p o a=_;rw [zad n];exact ha
  ·show (if a=p then some r else if w.ow a=some r then some Root.far else w.ow a)=none;rw [if_neg n,if_neg (by rw [hk];exact fun z=>by cases z)];exact hk
 mu:=fun _ _ h=>h
theorem Rel.own(R:Rel cl B σ w ρ S)(hp:w.H p=none)(t:Top cl w o d):Rel cl B (σ.set i (some (.ref p))) (w.addAs p o (.slot i)) (ρ.set i (some (true,d))) S:=by
 have ff:=zaE (w:=w) (p:=p) (o:=o) (r:=.slot i) hp
 have kp:∀a u,w.H a=some u->w.ow a≠some (.slot i)->(w.addAs p o (.slot i)).H a=some u/\(w.addAs p o (.slot i)).ow a=w.ow a:=fun a u ha hk=>by
  have n:a≠p:=zam ha hp;refine ⟨?_,?_⟩
  ·show upd w.H p o a=_;rw [zad n];exact ha
  ·show (if a=p then _ else if w.ow a=some (Root.slot i) then some Root.far else w.ow a)=_;rw [if_neg n,if_neg hk]
 have hBp:B.Fr p=none:=by
  cases z:B.Fr p with
  | none=>rfl
  | some u=>have:=(R.wd.fr p u z).1;rw [hp] at this;cases this
 refine ⟨⟨fun a u h=>?_,fun a r h=>?_,R.wd.len,fun n ob h=>?_,R.wd.tab.keep ff fun P ps h1 h2=>⟨(kp P _ h1 (by rw [h2];simp)).1,(kp P _ h1 (by rw [h2];simp)).2.trans h2⟩⟩,by rw [yaD,yaD];exact R.len,fun j b e hj=>?_⟩
 ·have hne:w.ow a≠some (.slot i):=fun z=>by
   rcases R.wd.own a _ z with y | y
   ·cases y
   ·rw [h] at y;cases y
  have:=kp a u (R.wd.fr a u h).1 hne;exact ⟨this.1,this.2.trans (R.wd.fr a u h).2⟩
 ·have h':(if a=p then some (Root.slot i) else if w.ow a=some (Root.slot i) then some Root.far else w.ow a)=some r:=h;split at h'
  ·rename_i e;rw [e];exact .inr hBp
  ·split at h'
   ·cases h';exact .inl rfl
   ·exact R.wd.own a r h'
 ·obtain ⟨a,e,x⟩:=R.wd.obj n ob h;exact ⟨a,e,x.keep ff fun b u hb hn=>kp b u hb fun z=>by rwa [z] at hn⟩
 ·by_cases hij:i=j
  ·subst hij
   have hlt:i<ρ.length:=by
    have:=(yai.mp hj).1;rwa [yaD] at this
   rw [yay hlt] at hj;cases hj;exact ⟨.ref p,by rw [yay (by rw [R.len];exact hlt)],p,o,rfl,if_pos rfl,zaj,t.up ff⟩
  ·rw [yaQ hij] at hj ⊢;obtain ⟨v,e1,x⟩:=R.slots j b e hj;refine ⟨v,e1,x.keep ff fun a u ha hr=>?_⟩;have:=kp a u ha (by rw [hr];exact fun z=>hij (by cases z;rfl));exact ⟨this.1,this.2.trans hr⟩
def Wd.mut(w:Wd)(p:Addr)(o:HO):Wd:=⟨upd w.H p o,w.ow,w.mu⟩
def zbe(h:w.ow p≠none):Fut w (w.mut p o) where
 keep:=fun a u ha hk=>⟨by
  show upd w.H p o a=_
  rw [zad (fun z=>h (by rw [<-z];exact hk))];exact ha,hk⟩
 mu:=fun _ _ h=>h
theorem Rel.mut{i:Nat}{p:Addr}{o:HO}{d d0:D}(R:Rel cl B σ w ρ S)(hs:σ[i]?=some (some (.ref p)))(hk:w.ow p=some (.slot i))(t:Top cl w o d):Rel cl B σ (w.mut p o) (ρ.set i (some (true,d))) S:=by
 have ff:=zbe (w:=w) (p:=p) (o:=o) (by rw [hk];exact yat _)
 have kp:∀a u,w.H a=some u->w.ow a≠some (.slot i)->(w.mut p o).H a=some u/\(w.mut p o).ow a=w.ow a:=fun a u ha hn=>⟨by
  show upd w.H p o a=_
  rw [zad (fun z=>hn (by rw [z];exact hk))];exact ha,rfl⟩
 have hBp:B.Fr p=none:=(R.wd.own p _ hk).elim (fun z=>by cases z) fun z=>z
 refine ⟨⟨fun a u h=>?_,R.wd.own,R.wd.len,fun n ob h=>?_,R.wd.tab.keep ff fun P ps h1 h2=>⟨(kp P _ h1 (by rw [h2];simp)).1,(kp P _ h1 (by rw [h2];simp)).2.trans h2⟩⟩,by rw [yaD];exact R.len,fun j b e hj=>?_⟩
 ·have hne:w.ow a≠some (.slot i):=fun z=>by
   rcases R.wd.own a _ z with y | y
   ·cases y
   ·rw [h] at y;cases y
  have:=kp a u (R.wd.fr a u h).1 hne;exact ⟨this.1,(R.wd.fr a u h).2⟩
 ·obtain ⟨a,e,x⟩:=R.wd.obj n ob h;exact ⟨a,e,x.keep ff fun b u hb hn=>kp b u hb fun z=>by rwa [z] at hn⟩
 ·by_cases hij:i=j
  ·subst hij
   have hlt:i<ρ.length:=by
    have:=(yai.mp hj).1;rwa [yaD] at this
   rw [yay hlt] at hj;cases hj;exact ⟨.ref p,hs,p,o,rfl,hk,zaj,t.up ff⟩
  ·rw [yaQ hij] at hj;obtain ⟨v,e1,x⟩:=R.slots j b e hj;refine ⟨v,e1,x.keep ff fun a u ha hr=>?_⟩;have:=kp a u ha (by rw [hr];exact fun z=>hij (by cases z;rfl));exact ⟨this.1,this.2.trans hr⟩
noncomputable def Wd.free(w:Wd)(r:Root):Wd:=⟨w.H,fun a=>if w.ow a=some r then none else w.ow a,w.mu⟩
def zlq:Fut w (w.free r) where
 keep:=fun a u ha hk=>⟨ha,by
  show (if w.ow a=some r then none else w.ow a)=none
  rw [hk];rfl⟩
 mu:=fun _ _ h=>h
theorem Top.shd(h:w.H a=some o)(k:w.ow a=none):Top cl w o d->Shd cl w (.ref a) d
 | .lst t=>.lst h k t
 | .dicK t=>.dicK h k t
 | .dicT t=>.dicT h k t
 | .dicN=>.dicN h k
 | .dicX x=>.dicX h k x
theorem Rel.frz1(R:Rel cl B σ w ρ S)(i:Nat):∃w',w'.H=w.H/\Fut w w'/\Rel cl B σ w' (frz1 ρ i) S:=by
 unfold S2.frz1;split
 ·rename_i d hd;have ff:=zlq (w:=w) (r:=.slot i);have kp:∀a u,w.H a=some u->w.ow a≠some (.slot i)->(w.free (.slot i)).H a=some u/\(w.free (.slot i)).ow a=w.ow a:=fun a u ha hn=>⟨ha,if_neg hn⟩
  refine ⟨w.free (.slot i),rfl,ff,⟨fun a u h=>?_,fun a r h=>?_,R.wd.len,fun n ob h=>?_,R.wd.tab.keep ff fun P ps h1 h2=>⟨(kp P _ h1 (by rw [h2];simp)).1,(kp P _ h1 (by rw [h2];simp)).2.trans h2⟩⟩,by rw [yaD];exact R.len,fun j b e hj=>?_⟩
  ·have hne:w.ow a≠some (.slot i):=fun z=>by
    rcases R.wd.own a _ z with y | y
    ·cases y
    ·rw [h] at y;cases y
   have:=kp a u (R.wd.fr a u h).1 hne;exact ⟨this.1,this.2.trans (R.wd.fr a u h).2⟩
  ·have h':(if w.ow a=some (Root.slot i) then none else w.ow a)=some r:=h;split at h'
   ·cases h'
   ·exact R.wd.own a r h'
  ·obtain ⟨a,e,x⟩:=R.wd.obj n ob h;exact ⟨a,e,x.keep ff fun b u hb hn=>kp b u hb fun z=>by rwa [z] at hn⟩
  ·by_cases hij:i=j
   ·subst hij;have hlt:i<ρ.length:=(yai.mp hd).1;rw [yay hlt] at hj;cases hj;obtain ⟨v,e1,a,o,rfl,h1,h2,t⟩:=R.slots i true d hd;refine ⟨.ref a,e1,(t.up ff).shd h2 ?_⟩;show (if w.ow a=some (Root.slot i) then none else w.ow a)=none;rw [if_pos h1]
   ·rw [yaQ hij] at hj;obtain ⟨v,e1,x⟩:=R.slots j b e hj;refine ⟨v,e1,x.keep ff fun a u ha hr=>?_⟩;have:=kp a u ha (by rw [hr];exact fun z=>hij (by cases z;rfl));exact ⟨this.1,this.2.trans hr⟩
 ·exact ⟨w,rfl,Fut.refl _,R⟩
theorem Rel.frz:∀(is:List Nat) {w:Wd} {ρ:Env},Rel cl B σ w ρ S->∃w',w'.H=w.H/\Fut w w'/\Rel cl B σ w' (frz is ρ) S
 | [],w,ρ,R=>⟨w,rfl,Fut.refl _,R⟩
 | i::is,w,ρ,R=>by
  obtain ⟨w1,e1,f1,R1⟩:=R.frz1 i;obtain ⟨w2,e2,f2,R2⟩:=Rel.frz is R1;exact ⟨w2,e2.trans e1,f1.trans f2,R2⟩
end
section
variable{X:Cx}{cl:Cf}{E:St->XK}{own:Bool}{st:Stmt}{za9:List Stmt}{f g:Fs}{e:Expr}{fe:Fe}{pos pos':Pos}
def zsr(is:List Nat)(h:PS X st (tS cl E own f)):PS X st (tS cl E own (sFz is f)):=by
 refine PS.imp h ?_;rintro De σ H ⟨B,w,ρ,S,rfl,R,q⟩;obtain ⟨w',e',f',R'⟩:=R.frz is;exact ⟨B,w',frz is ρ,S,e',R',zeQ.up f' q⟩
def zgH:PSs X [] (tS cl E own sNx):=by
 refine PSs.imp znz ?_;rintro De σ H ⟨B,w,ρ,S,rfl,R,q⟩;exact q σ w R (Fut.refl _)
def zcJ(h1:PS X st (tS cl E own f))(h2:PSs X za9 (tS cl E own g)):PSs X (st::za9) (tS cl E own (zar f g)):=by
 refine PSs.imp (zkE h1 h2) ?_;rintro De σ H ⟨B,w,ρ,S,rfl,R,q⟩;refine ⟨B,w,ρ,S,rfl,R,?_⟩;unfold zar at q
 cases hf:f ρ S with
 | nx ρ' S' =>
  rw [hf] at q;intro σ' w' R' F';exact ⟨B,w',ρ',S',rfl,R',zeQ.up F' q⟩
 | bk ρ' S'=>rwa [hf] at q
 | ct ρ' S'=>rwa [hf] at q
 | rt d S'=>rwa [hf] at q
 | ex c ρ' S'=>rwa [hf] at q
 | bad=>rwa [hf] at q
def zm3:PS X (.Pass pos) (tS cl E own sNx):=by
 refine PS.imp znB ?_;rintro De σ H ⟨B,w,ρ,S,rfl,R,q⟩;exact q σ w R (Fut.refl _)
def zpf:PS X (.Break pos) (tS cl E own sBk):=by
 refine PS.imp zkH ?_;rintro De σ H ⟨B,w,ρ,S,rfl,R,q⟩;exact q σ w R (Fut.refl _)
def ztD(q:tS cl E own (zbL i false fe) De σ H):zmV (tE cl E fe) (zhS i) De σ H:=by
 obtain ⟨B,w,ρ,S,rfl,R,q⟩:=q;refine ⟨B,w,ρ,S,rfl,R,?_⟩;unfold zbL at q
 cases hf:fe ρ S with
 | bad=>rwa [hf] at q
 | exc c S1=>rw [hf] at q;exact fun w' R' F'=>q σ w' R' F'
 | ok d S1 =>
  rw [hf] at q;intro v w' R' F' h';exact q _ w' (R'.put h') F'
def zro(q:tS cl E own (zbL i true fe) De σ H):zmV (tN cl E fe) (zhS i) De σ H:=by
 obtain ⟨B,w,ρ,S,rfl,R,q⟩:=q;refine ⟨B,w,ρ,S,rfl,R,?_⟩;unfold zbL at q
 cases hf:fe ρ S with
 | bad=>rwa [hf] at q
 | exc c S1=>rw [hf] at q;exact fun w' R' F'=>q σ w' R' F'
 | ok d S1 =>
  rw [hf] at q;intro p o w' R' F' hp t;exact q _ (w'.addAs p o (.slot i)) (R'.own hp t) (F'.trans (zaE hp))
def zl3(hN:X.N.Nodup)(hi:X.N[i]?=some x)(hx:Loc X.env.scope x)(he:PE X e (tE cl E fe))(hs:swapsWith e (some (.Name x pos')) pos.line X.env=pure false)(hf:X.fn x=true\/X.env.scope.names.lookup x=some .local):PS X (.Assign [.Name x pos'] e pos) (tS cl E own (zbL i false fe)) :=
 PS.imp (ziM hN hi hx he hs hf) fun _ _ _ q=>ztD q
def zf3(hN:X.N.Nodup)(hi:X.N[i]?=some x)(hx:Loc X.env.scope x)(he:PE X e (tN cl E fe))(hs:swapsWith e (some (.Name x pos')) pos.line X.env=pure false)(hf:X.fn x=true\/X.env.scope.names.lookup x=some .local):PS X (.Assign [.Name x pos'] e pos) (tS cl E own (zbL i true fe)) :=
 PS.imp (ziM hN hi hx he hs hf) fun _ _ _ q=>zro q
def zl2(he:PE X e (tE cl E fe))(hs:swapsWith e none pos.line X.env=pure false):PS X (.Expr e pos) (tS cl E own (zl5 fe)):=by
 refine PS.imp (zdk he hs) ?_;rintro De σ H ⟨B,w,ρ,S,rfl,R,q⟩;refine ⟨B,w,ρ,S,rfl,R,?_⟩;unfold zl5 at q
 cases hf:fe ρ S with
 | bad=>rwa [hf] at q
 | exc c S1=>rw [hf] at q;exact fun w' R' F'=>q σ w' R' F'
 | ok d S1=>rw [hf] at q;exact fun v w' R' F' _=>q σ w' R' F'
def zis(he:PE X e (tE cl E fe)):PS X (.Return (some e) pos) (tS cl E false (zbJ fe)):=by
 refine PS.imp (ze8 he) ?_;rintro De σ H ⟨B,w,ρ,S,rfl,R,q⟩;refine ⟨B,w,ρ,S,rfl,R,?_⟩;unfold zbJ at q
 cases hf:fe ρ S with
 | bad=>rwa [hf] at q
 | exc c S1=>rw [hf] at q;exact fun w' R' F'=>q σ w' R' F'
 | ok d S1=>rw [hf] at q;exact fun v w' R' F' h'=>q v w' R'.wd F' h'
def zmZ(he:PE X e (tN cl E fe)):PS X (.Return (some e) pos) (tS cl E true (zbJ fe)):=by
 refine PS.imp (ze8 he) ?_;rintro De σ H ⟨B,w,ρ,S,rfl,R,q⟩;refine ⟨B,w,ρ,S,rfl,R,?_⟩;unfold zbJ at q
 cases hf:fe ρ S with
 | bad=>rwa [hf] at q
 | exc c S1=>rw [hf] at q;exact fun w' R' F'=>q σ w' R' F'
 | ok d S1 =>
  rw [hf] at q;intro p o w' R' F' hp t;have ff:=zaE (w:=w') (p:=p) (o:=o) (r:=.slot 0) hp;exact q (.ref p) (w'.addAs p o (.slot 0)) (Rel.own (i:=0) R' hp t).wd (F'.trans ff) ⟨p,o,0,rfl,if_pos rfl,zaj,t.up ff⟩
def zmY(hN:X.N[i]?=some x)(hv:Vis X.env.scope x)(hd:(x == ("__debug__":Str))=false)(hcd:(x == ("__classdict__":Str))=false):PS X (.Return (some (.Name x pos')) pos) (tS cl E true (zkx i)):=by
 refine PS.imp (ze8 (zaU hN hv hd hcd)) ?_;rintro De σ H ⟨B,w,ρ,S,rfl,R,q⟩;unfold zkx at q;split at q
 ·rename_i d hd;obtain ⟨v,e1,a,o,rfl,h1,h2,t⟩:=R.slots i true d hd;exact ⟨_,e1,q _ w R.wd (Fut.refl _) ⟨a,o,i,rfl,h1,h2,t⟩⟩
 ·exact q.elim
def zm0:PS X (.Return none pos) (tS cl E false zky):=by
 refine PS.imp znA ?_;rintro De σ H ⟨B,w,ρ,S,rfl,R,q⟩;exact q .non w R.wd (Fut.refl _) .non
def zpc(hc:PT X c (tTr cl E fc))(ha:PSs X a (tS cl E own f))(hb:PSs X b (tS cl E own g)):PS X (.If c a b pos) (tS cl E own (sIf fc f g)):=by
 refine PS.imp (zsH hc ha hb) ?_;rintro De σ H ⟨B,w,ρ,S,rfl,R,q⟩;refine ⟨B,w,ρ,S,rfl,R,?_⟩;unfold sIf at q
 cases hg:fc ρ S with
 | bad=>rwa [hg] at q
 | exc c S1=>rw [hg] at q;exact fun w' R' F'=>q σ w' R' F'
 | ok d S1 =>
  rw [hg] at q;dsimp only at q ⊢
  cases hb:isB d with
  | none=>rw [hb] at q;exact q.elim
  | some b =>
   rw [hb] at q;intro w1 R1 F1
   cases b with
   | true=>exact zlh ⟨B,w1,ρ,S1,rfl,R1,zeQ.up F1 q⟩
   | false=>exact zli ⟨B,w1,ρ,S1,rfl,R1,zeQ.up F1 q⟩
end
def zgP(i:Nat)(fe:Fe):Fs:=fun ρ S=>match ρ[i]? with
 | some (some (true,.lst l))=>(match fe ρ S with
  | .ok d S'=>if small l.length then .nx (ρ.set i (some (true,.lst (l++[d])))) S' else .bad
  | .exc c S'=>.ex c ρ S' | .bad=>.bad)
 | _=>.bad
section
variable{X:Cx}{cl:Cf}{E:St->XK}{own:Bool}{e:Expr}{fe:Fe}{pos pos':Pos}
def zgJ(h:small n=true):n<sizeLine:=Nat.lt_of_le_of_lt (yal h) (by decide)
def Rel.list(R:Rel cl B σ w ρ S)(h:ρ[i]?=some (some (true,.lst l))):∃a xs,σ[i]?=some (some (.ref a))/\w.ow a=some (.slot i)/\w.H a=some (.lst xs)/\Shds cl w xs l:=by
 obtain ⟨v,e1,a,o,rfl,h1,h2,t⟩:=R.slots i true _ h
 cases t with
 | lst t=>exact ⟨a,_,e1,h1,h2,t⟩
def zph(hN:X.N[i]?=some x)(hv:Vis X.env.scope x)(hd:(x == ("__debug__":Str))=false)(hcd:(x == ("__classdict__":Str))=false)(he:PE X e (tE cl E fe))
  (hpl:zaB e=true) (hln:(ap.endLine == cp.line)=true):PS X (.Expr (.Call (.Attribute (.Name x pos') "append" ap) [e] [] cp) pos) (tS cl E own (zgP i fe)):=by
 refine PS.imp (zdk (zhH (es:=[]) ybg PySem.F.slot_list_append PySem.F.type_list_append zfg (zaU hN hv hd hcd) (zat he zaV (zap hpl)) (hfew:=zc3 (by simp [hpl]) (by simp)) (hline:=hln) (hs:=zap hpl) (hplain:=rfl))) ?_;rintro De σ H ⟨B,w,ρ,S,rfl,R,q⟩;unfold zgP at q;split at q
 ·rename_i l hl;obtain ⟨a,xs,e1,h1,h2,t⟩:=R.list hl;refine ⟨_,e1,.inl ⟨rfl,_,SqL.of h2⟩,B,w,ρ,S,rfl,R,?_⟩
  cases hf:fe ρ S with
  | bad=>rwa [hf] at q
  | exc c S1=>rw [hf] at q;exact fun w' R' F'=>q σ w' R' F'
  | ok d S1 =>
   rw [hf] at q;intro v w' R' F' h';dsimp only at q
   cases hz:small l.length with
   | false=>rw [hz,if_neg (by decide)] at q;exact q.elim
   | true =>
    rw [hz,if_pos rfl] at q;obtain ⟨a',xs',e1',h1',h2',t'⟩:=R'.list hl;rw [e1] at e1';cases e1';refine ⟨a,xs',v,rfl,rfl,h2',by rw [t'.length];exact zgJ hz,?_⟩;exact q σ (w'.mut a (.lst (xs'++[v]))) (R'.mut (d0:=.non) e1 h1' (.lst (t'.append (.cons h' .nil)))) (F'.trans (zbe (by rw [h1'];exact yat _)))
 ·exact q.elim
end
end S2
namespace L2
open PySem PySem.Spec PyProof.Rows
section
variable{prog:Program}{w:World}{A:Around}{E:Z5}{s:Shared}
def zkm{it t:Addr}{j:Nat}{vs:Array Value}{v:Value}{Q:Z5}(st:s.heap.IsTupleIter it t j)(tp:s.heap.IsTuple t vs)(e:vs[j]?=some v)
  (q:∀h',h'.IsTupleIter it t (j+1)->Heap.SameBut it s.heap h'->Q v { s with heap:=h' }):wpAny (model prog w) A (Builtin.SmallTypes.nextOf (.ref it)) Q E s:=by
 obtain ⟨o1,g1,c1,d1⟩:=id st;obtain ⟨o2,g2,_,n2,d2⟩:=tp;unfold Builtin.SmallTypes.nextOf;refine yaa (yaM (name:=Str.ofString "__next__") st.typeIs ybJ (yaI ybJ st.typeIs F.entry_tuple_iterator_next ?_ (F.args_tuple_iterator_next_1 _)));show wpAny _ _ (field (.ref it) 0 >>= _) _ _ s;refine yaa (ya2 g1 d1 (x:=.ref t) rfl ?_);show wpAny _ _ (if (Value.ref t == Value.none)=true then _ else _) _ _ s;rw [if_neg (show ¬ ((Value.ref t == Value.none)=true) from fun z=>yaG z)];show wpAny _ _ (field (.ref it) 1 >>= _) _ _ s;refine yaa (ya2 g1 d1 (x:=.int j 0) rfl ?_);show wpAny _ _ (seqItems? (.ref t) >>= _) _ _ s;refine yaa (ybC g2 d2 ?_);simp only [ybo,e];refine yaa (ycF g1 d1 (by simp) (yae ⟨v,rfl,yae (q _ ?_ (Heap.SameBut.update ..))⟩));refine ⟨_,yaY _ g1 (ycJ (ybh d1 _)),(ydi ..).trans c1,?_⟩;rw [ybh d1];simp [rawInt]
def zig{it t:Addr}{j:Nat}{vs:Array Value}{Q:Z5}(hh:A.handled=none)(st:s.heap.IsTupleIter it t j)(tp:s.heap.IsTuple t vs)(e:vs[j]?=none)
  (q:∀h' x,Heap.ExtBut it s.heap h'->(∃o,h'.get? x=some o/\o.cls=.type "StopIteration")->E (.ref x) { s with heap:=h' }):wpAny (model prog w) A (Builtin.SmallTypes.nextOf (.ref it)) Q E s:=by
 obtain ⟨o1,g1,c1,d1⟩:=id st;obtain ⟨o2,g2,_,n2,d2⟩:=tp;unfold Builtin.SmallTypes.nextOf;refine yaa (yaM (name:=Str.ofString "__next__") st.typeIs ybJ (yaI ybJ st.typeIs F.entry_tuple_iterator_next ?_ (F.args_tuple_iterator_next_1 _)));show wpAny _ _ (field (.ref it) 0 >>= _) _ _ s;refine yaa (ya2 g1 d1 (x:=.ref t) rfl ?_);show wpAny _ _ (if (Value.ref t == Value.none)=true then _ else _) _ _ s;rw [if_neg (show ¬ ((Value.ref t == Value.none)=true) from fun z=>yaG z)];show wpAny _ _ (field (.ref it) 1 >>= _) _ _ s;refine yaa (ya2 g1 d1 (x:=.int j 0) rfl ?_);show wpAny _ _ (seqItems? (.ref t) >>= _) _ _ s;refine yaa (ybC g2 d2 ?_);simp only [ybo,e];refine yaa (yb6 (yaa (ycF g1 d1 (by simp) ?_)));show wpAny _ _ (newExc (.type "StopIteration") [] >>= _) _ _ _;refine yaa ?_;simp only [newExc,newTuple];refine yaa (yaK ?_ (by size_fits));refine yaa (m:=firstArgMember _ _) (yba (a:=Value.none) ?_ ?_)
 ·first | rfl | (simp only [firstArgMember];rfl)
 refine yaK ?_ (by size_fits);simp only [raiseNew];refine yaa (wpAny_handled ?_)
 first | rw [show A.in1.handled=none from hh] | rw [hh]
 refine yaa (yae (wpAny_throw (q _ _ (((Heap.SameBut.update ..).extBut.push _).push _) ⟨_,yag _ rfl,rfl⟩)))
def zfz(hh:A.handled=none)(it t:Addr)(ne:t≠it)(vs:Array Value):Draws prog w A it [it,t] vs.size (fun j v=>vs[j]?=some v) (fun j h=>h.IsTupleIter it t j/\h.IsTuple t vs) where
 live:=fun _ _ st=>by obtain ⟨⟨o,ho,_⟩,_⟩:=st;exact ⟨o,ho⟩
 frame:=fun _ _ _ st hk=>⟨st.1.at fun o e=>hk it (by simp) o e,by obtain ⟨o,ho,r⟩:=st.2;exact ⟨o,hk t (by simp) o ho,r⟩⟩
 item:=fun j s Q E hj st hQ=>zkm st.1 st.2 (v:=vs[j]) (by simp [hj]) fun h' st' sb=>hQ _ h' s.toks (by simp [hj]) ⟨st',by obtain ⟨o,ho,r⟩:=st.2;exact ⟨o,(sb.2 t ne).trans ho,r⟩⟩ sb
 done:=fun s Q E st hE=>zig hh st.1 st.2 (by simp) hE
def zfx(l:Addr)(items:Array Value)(n:Nat)(dct:Option Addr)(sl:Array (Option Value)) :
  Meets (Builtin.«enumerate.__new__» ⟨[.type "enumerate",.ref l],[]⟩) (fun _ R s=>s.heap.get? l=some { cls:=.type "tuple",dict:=dct,data:=.seq items n,slots:=sl } ∧
   R (.ok (.ret (.ref (s.heap.push { cls:=.type "tuple_iterator",data:=.fields #[.ref l,.int 0 0] }).objs.size)))
    { s with heap:=(s.heap.push { cls:=.type "tuple_iterator",data:=.fields #[.ref l,.int 0 0] }).push { cls:=.type "enumerate",data:=.fields #[.none,.bool false,.ref s.heap.objs.size,rawInt 0,.none,.none] } }) :=
 .of_wp fun prog w A R s h=>by
  obtain ⟨hp,g,d,tk,os⟩:=s;obtain ⟨hl,h⟩:=h;have hsub:=sub_enumerate;have hT:Heap.IsTuple (Shared.heap ⟨hp,g,d,tk,os⟩) l items:=⟨_,hl,rfl,n,rfl⟩
  wp_walk using ycl hl
  refine wpAny_stack_any fun st=>yae ?_
  split
  ·rename_i c _ _ _ _ _
   cases (c == Value.type "enumerate")<;>(wp_walk using ycl hl,ybL hT;exact ⟨_,rfl,h⟩)
  ·wp_walk using ycl hl,ybL hT;exact ⟨_,rfl,h⟩
def zeP{l:Addr}{items:Array Value}{Q:Z5}(hL:s.heap.IsTuple l items)
  (h:∀h',IsEnum h' (s.heap.objs.size+1) s.heap.objs.size 0 .none->h'.IsTupleIter s.heap.objs.size l 0->h'.objs.size=s.heap.objs.size+2->(∀b o,s.heap.get? b=some o->h'.get? b=some o)->Q (.ref (s.heap.objs.size+1)) { s with heap:=h' }) :
  wpAny (model prog w) A (call (.type "enumerate") [.ref l]) Q E s:=by
 obtain ⟨⟨c,dct,dt,sl⟩,hl,hc,n,hd⟩:=hL;simp only at hc hd;subst hc hd;refine callType_new F.called_enumerate (by decide) (F.typeCall_enumerate_1 _) (F.newCall_enumerate_1 _) (fun obj=>ycR obj _) F.entry_enumerate_new (zfx l items n dct sl) ⟨hl,?_⟩;generalize hp1:s.heap.push { cls:=.type "tuple_iterator",data:=.fields #[.ref l,.int 0 0] }=h1
 have hz:h1.objs.size=s.heap.objs.size+1:=by rw [<-hp1];exact yaS ..
 have k1:∀b o,s.heap.get? b=some o->h1.get? b=some o:=fun b o x=>by rw [<-hp1];exact yad _ x
 have i1:h1.get? s.heap.objs.size=some { cls:=.type "tuple_iterator",data:=.fields #[.ref l,.int 0 0] }:=by rw [<-hp1];exact yag _ rfl
 show _/\_;rw [hz]
 have he:IsEnum (h1.push { cls:=.type "enumerate",data:=.fields #[.none,.bool false,.ref s.heap.objs.size,rawInt 0,.none,.none] }) (s.heap.objs.size+1) s.heap.objs.size 0 .none:=by
  rw [<-hz];exact yag _ rfl
 exact ⟨⟨_,he,rfl⟩,h _ he ⟨_,yad _ i1,rfl,rfl⟩ (by rw [yaS,hz]) fun b o x=>yad _ (k1 b o x)⟩
end
section
variable{X:Cx}{pins:Z3}{σ:St}{H:Hp}{s:Shared}
def Inv.turnedL{t':Nat}{h':Heap}{ch:List Addr}(I:Inv X pins σ H s)(k:∀b o,b ∉ ch->s.heap.get? b=some o->h'.get? b=some o)(hf:∀b∈ch,zkd X pins H b):Inv X pins σ H { s with heap:=h',toks:=t' }:=by
 have nit:∀b u,H b=some u->b ∉ ch:=fun b u e z=>by rw [(hf b z).1] at e;cases e
 refine I.step (g':=s.gens) (d':=s.drawn) (ch:=ch) (fun b hb=>?_) (fun b o _ _ hc e _=>k b o hc e) (fun b o _ _ hc e _=>⟨o.slots,k b o hc e⟩) (fun _ _ _ _ n=>n) (fun b o hc e=>⟨o,k b o hc e⟩) (fun _ _ e=>e) (fun _ _ _ e=>e) (fun b ps e=>⟨#[],by rw [e];simp⟩) (fun m hm=>?_) (fun b u e=>?_) I.bare
 ·obtain ⟨f0,f1,f2,f3,f4,f5⟩:=hf b hb;exact ⟨f3,f1,f4,f5⟩
 ·obtain ⟨o,es,ep,ho,r⟩:=hm;exact ⟨o,es,ep,k _ o (fun z=>(hf _ z).2.1 rfl) ho,r⟩
 ·refine (I.hok b u e).stay (fun c v hc q=>k c v ?_ q) (fun _ q=>q) fun _ _ q=>q
  rcases hc with z | z
  ·rw [z];exact nit b u e
  ·exact nit c _ z
noncomputable def ItE(S:Hp->Addr->List V->Prop)(a:Addr):It :=
 ⟨fun i H=>∃xs x,S H a xs/\xs[i]?=some x,fun i H x H'=>∃t y,x=.ref t/\H t=none/\H'=upd H t (.tup [.int (i:Int),y])/\∀xs,S H a xs->xs[i]?=some y,fun i H=>∃xs,S H a xs/\xs.length<=i⟩
def zha{i:Nat}{e it T:Addr}{h1 h2:Heap}{tk:Nat}{x:Value}{y:V}(I:Inv X pins σ H s)(hf:∀b∈[e,it],zkd X pins H b)(hT:T=s.heap.objs.size)(te:h1.get? T=some { cls:=.type "tuple",data:=.seq #[.int i tk,x] })
  (k:∀b o,b≠e->b≠it->s.heap.get? b=some o->h1.get? b=some o) (sb:Heap.SameBut e h1 h2) (ne:T≠e) (ry:zaI y x):Inv X pins σ (upd H T (.tup [.int (i:Int),y])) { s with heap:=h2,toks:=tk+1 }/\H T=none:=by
 have fr:H T=none:=by rw [hT];exact I.hok.fresh (yah _)
 refine ⟨?_,fr⟩
 have I1:Inv X pins σ H { s with heap:=h2,toks:=tk+1 }:=I.turnedL (ch:=[e,it]) (fun b o hb q=>by
  simp only [yan,yaJ,ybM,not_or] at hb
  exact (sb.2 b hb.1).trans (k b o hb.1 hb.2 q)) hf
 refine I1.track fr (by rw [hT];exact I.sz) (by rw [hT];exact yaT I.lt) (fun z c q=>?_) (fun p hp=>?_) ?_
 ·obtain ⟨v,cq⟩:=I.cell z c q;rw [hT];exact yap cq.lt
 ·rw [hT];exact yap (yaj (I.pin p hp).1)
 ·refine ⟨by show 2<=sizeLine;decide,[.int i tk,x],.cons ⟨tk,rfl⟩ (.cons ry .nil),?_⟩;exact ⟨_,(sb.2 T ne).trans te,rfl,_,rfl,rfl⟩
def zhy{P:Program}{K:PySem.W.Frag}(a it e:Addr)(hei:e≠it):Turn P w K (.Tuple elts x1 pos) (ItE (SqL K) a) [e,it] e (fun i h=>(∃old,IsEnum h e it (i:Int) old)/\h.IsListIter it a i) where
 mem:=by simp
 obj:=fun i h st b hb=>by
  obtain ⟨⟨old,he⟩,o,ho,c,d⟩:=st;simp only [yan,yaJ,ybM] at hb
  rcases hb with rfl | rfl
  ·exact ⟨_,he,fun v z=>by cases z⟩
  ·exact ⟨o,ho,fun v z=>by rw [d] at z;cases z⟩
 keep:=fun i h h' st k=>by
  obtain ⟨⟨old,he⟩,hi⟩:=st;exact ⟨⟨old,k e (by simp) _ he⟩,hi.at fun o q=>k it (by simp) o q⟩
 item:=by
  intro X hP hw hK hc i pins s σ H E I hf st hg;subst hP hw hK;obtain ⟨xs,x,hq,hx⟩:=hg;obtain ⟨⟨old,he⟩,hi⟩:=st;obtain ⟨its,rv,p,hz⟩:=I.list hq;obtain ⟨u,hu,ru⟩:=rv.get hx;refine wpAny_pyNext_enum_item he hi p.isList (x:=u) (by simpa using hu) hei fun h1 ho hi1 ht1 hz1 k1=>?_
  have neT:s.heap.objs.size≠e:=yaT (yaj he);refine ⟨_,rfl,wpAny_letOwnedTupleGo_enum ho fun h2 he2 sb=>?_⟩;obtain ⟨I2,fr⟩:=zha (h2:=h2) (y:=x) I hf rfl ht1 k1 sb neT ru;refine ⟨.ref s.heap.objs.size,_,I2,rfl,⟨_,x,rfl,fr,rfl,fun ys hy=>by rw [I.list_inj hy hq];exact hx⟩,⟨⟨u,by simpa using he2⟩,hi1.at fun o q=>(sb.2 it (Ne.symm hei)).trans q⟩,fun b hb=>?_⟩;rw [zad]
  ·exact (hf b hb).1
  ·rintro rfl;simp only [yan,yaJ,ybM] at hb
   rcases hb with z | z
   ·exact neT z
   ·obtain ⟨o,q,_⟩:=hi;exact absurd (yaj q) (by rw [<-z];exact yaL _)
 done:=by
  intro X hP hw hK hc i pins s σ H E I hf st hg;subst hP hw hK;obtain ⟨xs,hq,hx⟩:=hg;obtain ⟨⟨old,he⟩,hi⟩:=st;obtain ⟨its,rv,p,hz⟩:=I.list hq;have hl:=rv.length;obtain ⟨f0,f1,f2,f3,f4,f5⟩:=hf it (by simp);exact wpAny_pyNext_enum_end (I.ok.hd hc) he hi p.isList (by simp;omega) fun h' eb=>⟨rfl,I.turned (t':=s.toks) (fun b o hb q=>eb b o hb q) f0 f1 f3 f4 f5⟩
 self:=fun _ _ _ _ _ st h=>by
  obtain ⟨⟨old,he⟩,_⟩:=st;exact ycD he h
def zhx{P:Program}{K:PySem.W.Frag}(a it e:Addr)(hei:e≠it):Turn P w K (.Tuple elts x1 pos) (ItE (SqT K) a) [e,it] e (fun i h=>(∃old,IsEnum h e it (i:Int) old)/\h.IsTupleIter it a i) where
 mem:=by simp
 obj:=fun i h st b hb=>by
  obtain ⟨⟨old,he⟩,o,ho,c,d⟩:=st;simp only [yan,yaJ,ybM] at hb
  rcases hb with rfl | rfl
  ·exact ⟨_,he,fun v z=>by cases z⟩
  ·exact ⟨o,ho,fun v z=>by rw [d] at z;cases z⟩
 keep:=fun i h h' st k=>by
  obtain ⟨⟨old,he⟩,hi⟩:=st;exact ⟨⟨old,k e (by simp) _ he⟩,hi.at fun o q=>k it (by simp) o q⟩
 item:=by
  intro X hP hw hK hc i pins s σ H E I hf st hg;subst hP hw hK;obtain ⟨xs,x,hq,hx⟩:=hg;obtain ⟨⟨old,he⟩,hi⟩:=st;obtain ⟨its,rv,p,hz⟩:=I.tuple hq;obtain ⟨u,hu,ru⟩:=rv.get hx
  have hlt:i<its.toArray.size:=by
   have:=(yai.mp hu).1;simpa using this
  have nat':a≠it:=by
   rintro rfl;obtain ⟨o,q,c,_⟩:=hi;obtain ⟨o2,q2,c2,_⟩:=id p;rw [q] at q2;cases q2;rw [c] at c2;simp at c2
  have nae:e ∉ [it,a]:=by
   simp only [yan,yaJ,ybM,not_or];refine ⟨hei,?_⟩;rintro rfl;obtain ⟨o2,q2,c2,_⟩:=id p;rw [he] at q2;cases q2;simp at c2
  refine wpAny_pyNext_enum_itemD (D:=zfz (A:=X.A.in1) (I.ok.hd hc) it a nat' its.toArray) he ⟨hi,show s.heap.IsTuple a its.toArray from p⟩ hlt hei nae fun u' h1 tk hu' ho hi1 ht1 hz1 k1=>?_
  have eu:u'=u:=by
   have:its[i]?=some u':=by simpa using hu'
   rw [hu] at this;exact (Option.some.inj this).symm
  subst eu;have neT:s.heap.objs.size≠e:=yaT (yaj he);refine ⟨_,rfl,wpAny_letOwnedTupleGo_enum ho fun h2 he2 sb=>?_⟩;obtain ⟨I2,fr⟩:=zha (h2:=h2) (y:=x) I hf rfl ht1 k1 sb neT ru;refine ⟨.ref s.heap.objs.size,_,I2,rfl,⟨_,x,rfl,fr,rfl,fun ys hy=>by rw [I.tuple_inj hy hq];exact hx⟩,⟨⟨u',by simpa using he2⟩,hi1.1.at fun o q=>(sb.2 it (Ne.symm hei)).trans q⟩,fun b hb=>?_⟩;rw [zad]
  ·exact (hf b hb).1
  ·rintro rfl;simp only [yan,yaJ,ybM] at hb
   rcases hb with z | z
   ·exact neT z
   ·obtain ⟨o,q,_⟩:=hi;exact absurd (yaj q) (by rw [<-z];exact yaL _)
 done:=by
  intro X hP hw hK hc i pins s σ H E I hf st hg;subst hP hw hK;obtain ⟨xs,hq,hx⟩:=hg;obtain ⟨⟨old,he⟩,hi⟩:=st;obtain ⟨its,rv,p,hz⟩:=I.tuple hq;have hl:=rv.length;obtain ⟨f0,f1,f2,f3,f4,f5⟩:=hf it (by simp);have ty:s.TypeIs (.ref e) "enumerate":=⟨_,he,rfl⟩;unfold pyNext;refine yaa (ybN (yaM (name:=Str.ofString "__next__") ty F.slot_enumerate_next (yaI F.slot_enumerate_next ty F.entry_enumerate_next ?_ (F.args_enumerate_next_1 _))));show wpAny _ _ (field (.ref e) 2 >>= _) _ _ _;refine yaa (ya2 he rfl (x:=.ref it) rfl ?_);refine yaa (zig (I.ok.hd hc) hi (show s.heap.IsTuple a its.toArray from p) (by simp;omega) fun h' x eb hx'=>?_);obtain ⟨o,ho,hcl⟩:=hx';refine yaa (ybl (T:="StopIteration") (b:=true) ⟨o,ho,hcl⟩ ydc ?_);exact yae ⟨rfl,I.turned (t':=s.toks) (fun b o hb q=>eb b o hb q) f0 f1 f3 f4 f5⟩
 self:=fun _ _ _ _ _ st h=>by
  obtain ⟨⟨old,he⟩,_⟩:=st;exact ycD he h
theorem zfK:bootBuiltins "enumerate" = some (.type "enumerate"):=by decide +kernel
noncomputable def zvD(S:Hp->Addr->List V->Prop)(ta:TA):TI:=fun σ H R=>ta σ H fun vs H1=>∃a,vs=[.ref a]/\(∃xs,S H1 a xs)/\R (ItE S a) H1
theorem zkL{K:PySem.W.Frag}{elts:List Expr}{x1:Nat}{tp:Pos}{a:Expr}{ta:TA}{p pos:Pos}(hg:Gl X "enumerate")(hm:X.mg "enumerate" = none)(ha:PA X [a] ta)(hK:X.K=K:=by rfl)(hs:starEach [a] X.env=[(false,eval a X.env)]:=by rfl) :
  PI X (.Tuple elts x1 tp) (.Call (.Name "enumerate" p) [a] [] pos) (zvD (SqL K) ta):=by
 subst hK;intro pins s σ H R I h;refine Call_ (zbp I hg hm zfK (yaC (thn (ha pos pins s σ H _ I h) fun us s1 ⟨vs,H1,I1,r1,q1⟩=>?_) hs rfl));obtain ⟨b,e,⟨xs,hq⟩,q⟩:=q1;subst e
 cases r1 with
 | cons r rr =>
  cases rr;cases r;obtain ⟨its,rv,pl,hz⟩:=I1.list hq;refine call_enumerate_list pl.isList fun h' he hi hz' k=>ycD he ?_
  refine ⟨s1.heap.objs.size+1,[s1.heap.objs.size+1,s1.heap.objs.size],_,_,H1,rfl,I1.kept (t':=s1.toks) k,zhy b _ _ (Nat.succ_ne_self _),⟨⟨_,he⟩,hi⟩,fun c hb=>?_,q⟩;simp only [yan,yaJ,ybM] at hb
  have hc:s1.heap.objs.size<=c:=by rcases hb with rfl | rfl<;>omega
  exact I1.fpOk hc (I1.hok.fresh hc)
def zkK{K:PySem.W.Frag}{elts:List Expr}{x1:Nat}{tp:Pos}{a:Expr}{ta:TA}{p pos:Pos}(hg:Gl X "enumerate")(hm:X.mg "enumerate" = none)(ha:PA X [a] ta)(hK:X.K=K:=by rfl)(hs:starEach [a] X.env=[(false,eval a X.env)]:=by rfl) :
  PI X (.Tuple elts x1 tp) (.Call (.Name "enumerate" p) [a] [] pos) (zvD (SqT K) ta):=by
 subst hK;intro pins s σ H R I h;refine Call_ (zbp I hg hm zfK (yaC (thn (ha pos pins s σ H _ I h) fun us s1 ⟨vs,H1,I1,r1,q1⟩=>?_) hs rfl));obtain ⟨b,e,⟨xs,hq⟩,q⟩:=q1;subst e
 cases r1 with
 | cons r rr =>
  cases rr;cases r;obtain ⟨its,rv,pl,hz⟩:=I1.tuple hq;refine zeP (show s1.heap.IsTuple b its.toArray from pl) fun h' he hi hz' k=>ycD he ?_
  refine ⟨s1.heap.objs.size+1,[s1.heap.objs.size+1,s1.heap.objs.size],_,_,H1,rfl,I1.kept (t':=s1.toks) k,zhx b _ _ (Nat.succ_ne_self _),⟨⟨_,he⟩,hi⟩,fun c hb=>?_,q⟩;simp only [yan,yaJ,ybM] at hb
  have hc:s1.heap.objs.size<=c:=by rcases hb with rfl | rfl<;>omega
  exact I1.fpOk hc (I1.hok.fresh hc)
noncomputable def Itq(lo c:Int)(n:Nat):It:=⟨fun i _=>i<n,fun i H x H'=>H'=H/\x=.int (lo+i*c),fun i _=>n<=i⟩
def zfZ{P:Program}{w:World}{K:PySem.W.Frag}{tg:Expr}(it:Addr)(lo c:Int)(n:Nat):Turn P w K tg (Itq lo c n) [it] it (fun i h=>IsRangeIter h it (lo+(i:Nat)*c) ((n:Int)-(i:Nat)) c) where
 mem:=by simp
 obj:=fun i h st b hb=>by
  have e:b=it:=by simpa using hb
  subst e;exact ⟨_,st,fun v z=>by cases z⟩
 keep:=fun i h h' st k=>k it (by simp) _ st
 item:=by
  intro X hP hw hK hc i pins s σ H E I hf st hg;subst hP hw hK;obtain ⟨f0,f1,f2,f3,f4,f5⟩:=hf it (by simp);have W:=Walks.range (prog:=X.prog) (w:=X.w) (I.ok.hd hc) it lo c n;refine W.item i s _ _ hg st fun v h' tk hv st' kk=>?_
  obtain ⟨t,rfl⟩:=hv;have I1:Inv X pins σ H { s with heap:=h',toks:=tk }:=I.turned (fun b o hb e=>kk b o (by simpa using hb) e) f0 f1 f3 f4 f5;exact ⟨_,rfl,zjB (s:={ s with heap:=h',toks:=tk }) (n:="range_iterator") st' rfl rfl (by decide) ⟨.int (lo+i*c),H,I1,⟨t,rfl⟩,⟨rfl,rfl⟩,st',fun b hb=>(hf b hb).1⟩⟩
 done:=by
  intro X hP hw hK hc i pins s σ H E I hf st hg;subst hP hw hK;obtain ⟨f0,f1,f2,f3,f4,f5⟩:=hf it (by simp);exact wpAny_pyNext_range_end (I.ok.hd hc) st (by have:n<=i:=hg;omega) fun h' eb=>⟨rfl,I.turned (t':=s.toks) (fun b o hb e=>eb b o hb e) f0 f1 f3 f4 f5⟩
 self:=fun _ _ _ _ _ st h=>wpAny_pyIter_rangeiter st h
noncomputable def ztf(ta:TA):TI:=fun σ H R=>ta σ H fun vs H1=>∃j c:Int,vs=[.int 0,.int j,.int c]/\0<=j/\j<=1000/\1<=c/\c<=1000/\R (Itq 0 c ((j+c-1) / c).toNat) H1
def ziR{tg a b c:Expr}{ta:TA}{p pos:Pos}(hg:Gl X "range")(hm:X.mg "range" = none)(ha:PA X [a,b,c] ta)(hs:starEach [a,b,c] X.env=(false,eval a X.env)::starEach [b,c] X.env:=by rfl)(hs2:(backTo pos (starEach [b,c] X.env)).any (·.1)=false:=by rfl) :
  PI X tg (.Call (.Name "range" p) [a,b,c] [] pos) (ztf ta):=by
 intro pins s σ H R I h;refine Call_ (zbp I hg hm boot_range (yaC (thn (ha pos pins s σ H _ I h) fun us s1 ⟨vs,H1,I1,r1,q1⟩=>?_) hs hs2));obtain ⟨j,k,e,j0,j1,k0,k1,q⟩:=q1;subst e
 cases r1 with
 | cons r rr =>
  cases rr with
  | cons r' rr =>
   cases rr with
   | cons r'' rr =>
    cases rr;obtain ⟨t,rfl⟩:=r;obtain ⟨t',rfl⟩:=r';obtain ⟨t'',rfl⟩:=r'';have hsz:=rangeSize_pos (len:=j) k0 j0
    have hsm:Builtin.Range.small 0 j k=true:=by
     have h1:(j+k-1) / k<=j+k-1:=Int.ediv_le_self _ (by omega);have h2:0<=(j+k-1) / k:=Int.ediv_nonneg (by omega) (by omega);unfold Builtin.Range.small;rw [hsz];simp only [Builtin.Range.rangeFitsLong,yab,ycZ,yaB,ybV];refine ⟨by omega,.inr ?_⟩;rw [if_pos (by omega)];simp only [yab,yaB];omega
    refine call_range_3 (by omega) ?_ (Or.inl (PyProof.noPylong_small (by omega)));generalize hp1:s1.heap.push { cls:=.type "range",data:=.fields #[.int 0 t,.int j t',.int k t''] }=h1
    have hr:IsRange h1 s1.heap.objs.size 0 j k t t' t'':=by rw [<-hp1];exact IsRange.new ..
    have k1':∀b o,s1.heap.get? b=some o->h1.get? b=some o:=fun b o x=>by rw [<-hp1];exact yad _ x
    have I2:Inv X pins σ H1 { s1 with heap:=h1,toks:=s1.toks }:=I1.kept k1';refine wpAny_pyIter_range hr hsm ?_;refine ⟨h1.objs.size,[h1.objs.size],_,_,H1,rfl,I2.kept (t':=s1.toks) fun b o e=>yad _ e,zfZ _ 0 k ((j+k-1) / k).toNat,?_,fun b hb=>?_,q⟩
    ·rw [hsz];have h2:0<=(j+k-1) / k:=Int.ediv_nonneg (by omega) (by omega)
     have e2:((((j+k-1) / k).toNat:Nat):Int)-((0:Nat):Int)=(j+k-1) / k:=by omega
     have e1:(0:Int)+((0:Nat):Int)*k=0:=by simp
     show IsRangeIter _ _ (0+((0:Nat):Int)*k) ((((j+k-1) / k).toNat:Int)-((0:Nat):Int)) k;rw [e1,e2];exact yag _ rfl
    ·have e:b=h1.objs.size:=by simpa using hb
     subst e;exact I2.fpOk (yah _) (I2.hok.fresh (yah _))
end
end L2
namespace S2
open PySem PySem.Spec PyProof.Rows L2
structure ItOk(cl:Cf)(w:Wd)(J:It)(ds:List D):Prop where
 go:∀w',Fut w w'->∀i,i<ds.length->J.go i w'.H
 stop:∀w',Fut w w'->J.stop ds.length w'.H
 yld:∀w',Fut w w'->∀i d x H',ds[i]?=some d->J.yld i w'.H x H'->∃w'',w''.H=H'/\Grow w' w''/\Shd cl w'' x d
noncomputable abbrev Fi:=Env->Sto->Out (List D)
noncomputable def tI(cl:Cf)(E:St->XK)(f:Fi):TI:=fun σ H R'=>∃B w ρ S,w.H=H/\Rel cl B σ w ρ S/\match f ρ S with
 | .ok ds S'=>∀J w',Rel cl B σ w' ρ S'->Fut w w'->ItOk cl w' J ds->R' J w'.H
 | .exc c S'=>∀w',Rel cl B σ w' ρ S'->Fut w w'->E σ (.ref (cl c)) none w'.H
 | .bad=>False
def PI.imp(h:PI X tg it t)(i:∀σ H Q,t' σ H Q->t σ H Q):PI X tg it t':=fun pins s σ H Q I q=>h pins s σ H Q I (i _ _ _ q)
inductive Tg where | one (i:Nat) | tup (is:List Nat)
noncomputable def zcY:List Nat->List D->Env->Option Env
 | [],[],ρ=>some ρ
 | i::is,d::ds,ρ=>zcY is ds (ρ.set i (some (false,d)))
 | _,_,_=>none
noncomputable def Tg.put:Tg->Env->D->Option Env
 | .one i,ρ,d=>some (ρ.set i (some (false,d)))
 | .tup is,ρ,.tup ds=>zcY is ds ρ
 | .tup _,_,_=>none
noncomputable def tG(cl:Cf)(n:Nat)(tg:Tg):TG:=fun v σ H Q=>∃B w ρ S d ρ',w.H=H/\Rel cl B σ w ρ S/\Shd cl w v d/\tg.put ρ d=some ρ'/\∀σ',σ'.length=σ.length->σ'.drop n=σ.drop n->Rel cl B σ' w ρ' S->Q σ' w.H
def PG.imp(h:PG X tg t)(i:∀v σ H Q,t' v σ H Q->t v σ H Q):PG X tg t':=fun pins s σ H v u Q I r q=>h pins s σ H v u Q I r (i _ _ _ _ q)
def zh8(tg:Tg)(body:Fs):List D->Env->Sto->Fo
 | [],ρ,S=>.nx ρ S
 | d::ds,ρ,S=>match tg.put ρ d with
  | none=>.bad
  | some ρ1=>match body ρ1 S with
   | .nx ρ' S'=>zh8 tg body ds ρ' S'
   | .ct ρ' S'=>zh8 tg body ds ρ' S'
   | .bk ρ' S'=>.nx ρ' S'
   | o=>o
noncomputable def zl4(tg:Tg)(it:Fi)(body:Fs):Fs:=fun ρ S=>match it ρ S with
 | .ok ds S'=>zh8 tg body ds ρ S'
 | .exc c S'=>.ex c ρ S'
 | .bad=>.bad
def zdU(c:Fe)(body:Fs):Nat->Env->Sto->Fo
 | 0,_,_=>.bad
 | n+1,ρ,S=>match c ρ S with
  | .ok d S'=>(match isB d with
   | some true=>(match body ρ S' with
    | .nx ρ' S'=>zdU c body n ρ' S'
    | .ct ρ' S'=>zdU c body n ρ' S'
    | .bk ρ' S'=>.nx ρ' S'
    | o=>o)
   | some false=>.nx ρ S'
   | none=>.bad)
  | .exc x S'=>.ex x ρ S'
  | .bad=>.bad
section
variable{X:Cx}{cl:Cf}{E:St->XK}{own:Bool}{e iter tg:Expr}{body:List Stmt}{fb:Fs}{fi:Fi}{fc:Fe}{t:Tg}{pos:Pos}
theorem zhd{α:Type}{l:List α}{a:α}(h:i<n):(l.set i a).drop n=l.drop n:=by
 refine ybS fun k=>?_
 rw [ybt,ybt,yaQ (by omega)]
def zpr(hin:i<n)(hN:X.N.Nodup)(hi:X.N[i]?=some x)(hx:Loc X.env.scope x)(hf:X.fn x=true\/X.env.scope.names.lookup x=some .local):PG X (.Name x pos) (tG cl n (.one i)):=by
 refine PG.imp (zch hN hi hx hf) ?_;rintro v σ H Q ⟨B,w,ρ,S,d,ρ',rfl,R,h,hp,q⟩;cases hp;exact q _ (yaD ..) (zhd hin) (R.put h)
noncomputable def tGs(cl:Cf)(n:Nat)(is:List Nat):TGs:=fun vs σ H Q=>∃B w ρ S ds ρ',w.H=H/\Rel cl B σ w ρ S/\Shds cl w vs ds/\zcY is ds ρ=some ρ'/\∀σ',σ'.length=σ.length->σ'.drop n=σ.drop n->Rel cl B σ' w ρ' S->Q σ' w.H
def zng:PGs X [] (tGs cl n []):=by
 intro pins s σ H vs us Q I r h;obtain ⟨B,w,ρ,S,ds,ρ',rfl,R,hs,hp,q⟩:=h
 cases hs with
 | nil =>
  cases hp;exact zga pins s σ w.H [] us Q I r ⟨rfl,q σ rfl rfl R⟩
 | cons _ _=>cases hp
def zkr(hin:i<n)(hN:X.N.Nodup)(hi:X.N[i]?=some x)(hx:Loc X.env.scope x)(hf:X.fn x=true\/X.env.scope.names.lookup x=some .local)(h2:PGs X es (tGs cl n is)):PGs X (.Name x pos::es) (tGs cl n (i::is)):=by
 intro pins s σ H vs us Q I r h;obtain ⟨B,w,ρ,S,ds,ρ',rfl,R,hs,hp,q⟩:=h;refine zbY (zch hN hi hx hf) h2 rfl pins s σ w.H vs us Q I r ?_
 cases hs with
 | nil=>cases hp
 | cons h t =>
  rename_i v d vs ds;exact ⟨v,vs,rfl,B,w,_,S,ds,ρ',rfl,R.put h,t,hp,fun σ' e1 e2=>q σ' (e1.trans (yaD ..)) (e2.trans (zhd hin))⟩
def zpq(hc:X.calm=true)(h:PGs X es (tGs cl n is))(hn:(assignEach es X.env).length=is.length)(hst:(assignEach es X.env).findIdx? (·.1)=none):PG X (.Tuple es k pos) (tG cl n (.tup is)):=by
 refine PG.imp (ziV hc h hn hst) ?_;rintro v σ H Q ⟨B,w,ρ,S,d,ρ',rfl,R,h,hp,q⟩
 cases h with
 | tup e k r =>
  have hl:∀(is:List Nat) (ds:List D) (ρ ρ':Env),zcY is ds ρ=some ρ'->ds.length=is.length:=by
   intro is
   induction is with
   | nil=>intro ds ρ ρ' h;cases ds with
    | nil=>rfl
    | cons _ _=>cases h
   | cons i is ih=>intro ds ρ ρ' h;cases ds with
    | nil=>cases h
    | cons d ds=>rw [yam,yam,ih ds _ _ h]
  rename_i a xs ds;refine ⟨a,xs,rfl,SqT.of e,by rw [r.length];exact hl is ds ρ ρ' hp,B,w,ρ,S,ds,ρ',rfl,R,r,hp,q⟩
 | _=>cases hp
theorem zpd(hp:PassesOwn (model X.prog X.w) X.A X.env X.xe)(hc:X.calm=true)(hi:PI X tg iter (tI cl E fi))(hg:PG X tg (tG cl n t))(hb:PSs X body (tS cl E own fb))(hs:∀x,foldedSetIterable iter X.env x=pure x):PS X (.For tg iter body [] pos) (tS cl E own (zl4 t fi fb)):=by
 refine PS.imp (zpO hp hc hi hg hb hs) ?_;rintro De σ H ⟨B,w,ρ,S,rfl,R,q⟩;refine ⟨B,w,ρ,S,rfl,R,?_⟩;unfold zl4 at q
 cases hf:fi ρ S with
 | bad=>rwa [hf] at q
 | exc c S1=>rw [hf] at q;exact fun w' R' F'=>q σ w' R' F'
 | ok ds S1 =>
  rw [hf] at q;intro J w0 R0 F0 hJ;dsimp only at q;refine ⟨fun i m σ' H'=>m=ds.length-i/\i<=ds.length/\∃w1 ρ1 S2,w1.H=H'/\Fut w0 w1/\Rel cl B σ' w1 ρ1 S2/\zeQ cl E own B w1 De (zh8 t fb (ds.drop i) ρ1 S2),⟨ds.length,by simp,ya1 _,w0,ρ,S1,rfl,Fut.refl _,R0,by rw [List.drop_zero];exact zeQ.up F0 q⟩,?_⟩;rintro i m σ1 H1 ⟨rfl,hi,w1,ρ1,S2,rfl,F1,R1,q1⟩
  by_cases hlt:i<ds.length
  ·obtain ⟨d,hd⟩:∃d,ds[i]?=some d:=⟨ds[i],yac hlt⟩
   have hdr:ds.drop i=d::ds.drop (i+1):=by
    rw [ych hlt];rw [yac hlt] at hd;cases hd;rfl
   rw [hdr] at q1;unfold zh8 at q1
   cases hp1:t.put ρ1 d with
   | none=>rw [hp1] at q1;exact q1.elim
   | some ρ2 =>
    rw [hp1] at q1;dsimp only at q1;refine .inr ⟨hJ.go w1 F1 i hlt,fun σ' H'=>i+1<=ds.length/\∃w1 ρ1 S2,w1.H=H'/\Fut w0 w1/\Rel cl B σ' w1 ρ1 S2/\zeQ cl E own B w1 De (zh8 t fb (ds.drop (i+1)) ρ1 S2),fun σ' H' h'=>⟨ds.length-(i+1),by omega,rfl,h'.1,h'.2⟩,fun x H' y=>?_⟩;obtain ⟨w2,rfl,g2,s2⟩:=hJ.yld w1 F1 i d x H' hd y;refine ⟨B,w2,ρ1,S2,d,ρ2,rfl,R1.grow g2,s2,hp1,fun σ2 _ _ R2=>⟨B,w2,ρ2,S2,rfl,R2,?_⟩⟩;have q2:=zeQ.up g2.fut q1
    cases hb:fb ρ2 S2 with
    | bad=>rwa [hb] at q2
    | rt d S3=>rwa [hb] at q2
    | ex c ρ3 S3=>rwa [hb] at q2
    | bk ρ3 S3=>rw [hb] at q2;exact fun σ3 w3 R3 F3=>q2 σ3 w3 R3 F3
    | nx ρ3 S3=>rw [hb] at q2;exact fun σ3 w3 R3 F3=>⟨hlt,w3,ρ3,S3,rfl,F1.trans (g2.fut.trans F3),R3,zeQ.up F3 q2⟩
    | ct ρ3 S3=>rw [hb] at q2;exact fun σ3 w3 R3 F3=>⟨hlt,w3,ρ3,S3,rfl,F1.trans (g2.fut.trans F3),R3,zeQ.up F3 q2⟩
  ·have e:i=ds.length:=by omega
   subst e;rw [List.drop_length] at q1;exact .inl ⟨hJ.stop w1 F1,q1 σ1 w1 R1 (Fut.refl _)⟩
def ziF(n:Nat)(c:Fe)(body:Fs):Fs:=zdU c body n
def zkp(n:Nat)(hp:PassesOwn (model X.prog X.w) X.A X.env X.xe)(hc:PT X c (tTr cl E fc))(hb:PSs X body (tS cl E own fb)):PS X (.While c body [] pos) (tS cl E own (ziF n fc fb)):=by
 refine PS.imp (zkF hp hc hb) ?_;rintro De σ H ⟨B,w,ρ,S,rfl,R,q⟩;refine ⟨fun m σ' H'=>∃w1 ρ1 S2,w1.H=H'/\Fut w w1/\Rel cl B σ' w1 ρ1 S2/\zeQ cl E own B w1 De (zdU fc fb m ρ1 S2),⟨n,w,ρ,S,rfl,Fut.refl _,R,q⟩,?_⟩;rintro m σ1 H1 ⟨w1,ρ1,S1,rfl,F1,R1,q1⟩
 cases m with
 | zero=>exact q1.elim
 | succ m =>
  unfold zdU at q1;refine ⟨B,w1,ρ1,S1,rfl,R1,?_⟩
  cases hg:fc ρ1 S1 with
  | bad=>rwa [hg] at q1
  | exc c S2=>rw [hg] at q1;exact fun w' R' F'=>q1 σ1 w' R' F'
  | ok d S2 =>
   rw [hg] at q1;dsimp only at q1 ⊢
   cases hb:isB d with
   | none=>rw [hb] at q1;exact q1.elim
   | some b =>
    rw [hb] at q1;intro w2 R2 F2
    cases b with
    | false=>exact zli (q1 σ1 w2 R2 F2)
    | true =>
     refine zlh ⟨fun σ' H'=>∃w1 ρ1 S2,w1.H=H'/\Fut w w1/\Rel cl B σ' w1 ρ1 S2/\zeQ cl E own B w1 De (zdU fc fb m ρ1 S2),fun σ' H' h'=>⟨m,ybj _,h'⟩,B,w2,ρ1,S2,rfl,R2,?_⟩;have q2:=zeQ.up F2 q1;dsimp only at q2
     cases hx:fb ρ1 S2 with
     | bad=>rwa [hx] at q2
     | rt d S3=>rwa [hx] at q2
     | ex c ρ3 S3=>rwa [hx] at q2
     | bk ρ3 S3=>rw [hx] at q2;exact fun σ3 w3 R3 F3=>q2 σ3 w3 R3 F3
     | nx ρ3 S3=>rw [hx] at q2;exact fun σ3 w3 R3 F3=>⟨w3,ρ3,S3,rfl,F1.trans (F2.trans F3),R3,zeQ.up F3 q2⟩
     | ct ρ3 S3=>rw [hx] at q2;exact fun σ3 w3 R3 F3=>⟨w3,ρ3,S3,rfl,F1.trans (F2.trans F3),R3,zeQ.up F3 q2⟩
def zhb(f:Fe):Fi:=fun ρ S=>(f ρ S).bind fun d S1=>match d with | .lst l=>.ok l S1 | _=>.bad
def zgn(f:Fe):Fi:=fun ρ S=>(f ρ S).bind fun d S1=>match d with | .tup l=>.ok l S1 | _=>.bad
theorem zix(he:PE X e (tE cl E fc)):PI X tg e (tI cl E (zhb fc)):=by
 refine PI.imp (ziU he) ?_;rintro σ H Q ⟨B,w,ρ,S,rfl,R,q⟩;refine ⟨B,w,ρ,S,rfl,R,?_⟩;unfold zhb at q
 cases hf:fc ρ S with
 | bad=>rwa [hf] at q
 | exc c S1=>rwa [hf] at q
 | ok d S1 =>
  rw [hf] at q;intro v w' R' F' h';dsimp only [Out.bind] at q
  cases h' with
  | lst e k r =>
   rename_i a xs ds;refine ⟨a,rfl,⟨xs,SqL.of e⟩,q _ w' R' F' ?_⟩;have hl:=r.length;refine ⟨fun w1 F1 i hi=>⟨xs,xs[i]'(by omega),SqL.of (F1.keep _ _ e k).1,yac (by omega)⟩,fun w1 F1=>⟨xs,SqL.of (F1.keep _ _ e k).1,by omega⟩,fun w1 F1 i d x H1 hd y=>?_⟩;obtain ⟨rfl,hy⟩:=y;have hx:=hy xs (SqL.of (F1.keep _ _ e k).1);obtain ⟨d',e1,e2⟩:=r.get hx;rw [hd] at e1;cases e1;exact ⟨w1,rfl,Grow.refl _,e2.up F1⟩
  | _=>exact q.elim
def zpl(he:PE X e (tE cl E fc)):PI X tg e (tI cl E (zgn fc)):=by
 refine PI.imp (zpQ he) ?_;rintro σ H Q ⟨B,w,ρ,S,rfl,R,q⟩;refine ⟨B,w,ρ,S,rfl,R,?_⟩;unfold zgn at q
 cases hf:fc ρ S with
 | bad=>rwa [hf] at q
 | exc c S1=>rwa [hf] at q
 | ok d S1 =>
  rw [hf] at q;intro v w' R' F' h';dsimp only [Out.bind] at q
  cases h' with
  | tup e k r =>
   rename_i a xs ds;refine ⟨a,rfl,⟨xs,SqT.of e⟩,q _ w' R' F' ?_⟩;have hl:=r.length;refine ⟨fun w1 F1 i hi=>⟨xs,xs[i]'(by omega),SqT.of (F1.keep _ _ e k).1,yac (by omega)⟩,fun w1 F1=>⟨xs,SqT.of (F1.keep _ _ e k).1,by omega⟩,fun w1 F1 i d x H1 hd y=>?_⟩;obtain ⟨rfl,hy⟩:=y;have hx:=hy xs (SqT.of (F1.keep _ _ e k).1);obtain ⟨d',e1,e2⟩:=r.get hx;rw [hd] at e1;cases e1;exact ⟨w1,rfl,Grow.refl _,e2.up F1⟩
  | _=>exact q.elim
noncomputable def zbC(lo hi:Int):List D:=(List.range (hi-lo).toNat).map fun (i:Nat)=>.int (lo+i)
def zgm(f:Fe):Fi:=fun ρ S=>(zag [f] ρ S).bind fun ds S1=>match ds with | [.int j]=>if -1000000<=j/\j<=1000000 then .ok (zbC 0 j) S1 else .bad | _=>.bad
def zjL(f g:Fe):Fi:=fun ρ S=>(zag [f,g] ρ S).bind fun ds S1=>match ds with | [.int i,.int j]=>if (-1000000<=i/\i<=1000000)/\-1000000<=j/\j<=1000000 then .ok (zbC i j) S1 else .bad | _=>.bad
def zmo{w:Wd}{lo hi:Int}{n:Nat}(hn:n=(hi-lo).toNat):ItOk cl w (Itr lo n) (zbC lo hi):=by
 subst hn
 have hl:(zbC lo hi).length=(hi-lo).toNat:=by unfold zbC;rw [yao,yb9]
 refine ⟨fun w1 F1 i h=>by rw [hl] at h;exact h,fun w1 F1=>by rw [hl];exact yah _,fun w1 F1 i d x H1 hd y=>?_⟩;obtain ⟨rfl,rfl⟩:=y;unfold zbC at hd;rw [yaq] at hd
 cases hr:(List.range (hi-lo).toNat)[i]? with
 | none=>rw [hr] at hd;cases hd
 | some j =>
  rw [hr] at hd;have:=(yai.mp hr).2;rw [List.getElem_range] at this;subst this;cases hd;exact ⟨w1,rfl,Grow.refl _,.int _⟩
theorem znd(hg:Gl X "range")(hm:X.mg "range" = none)(ha:PA X [e] (tAs cl E [fc]))(hs:starEach [e] X.env=[(false,eval e X.env)]):PI X tg (.Call (.Name "range" p) [e] [] pos) (tI cl E (zgm fc)):=by
 refine PI.imp (ziT hg hm ha hs) ?_;rintro σ H Q ⟨B,w,ρ,S,rfl,R,q⟩;refine ⟨B,w,ρ,S,rfl,R,?_⟩;unfold zgm at q
 cases hf:zag [fc] ρ S with
 | bad=>rwa [hf] at q
 | exc c S1=>rwa [hf] at q
 | ok ds S1 =>
  rw [hf] at q;intro vs w' R' F' h';dsimp only [Out.bind] at q;split at q
  ·rename_i ds' S' hm';split at hm'
   ·rename_i j;split at hm'
    ·rename_i hb;cases hm'
     cases h' with
     | cons h1 h2 =>
      cases h1;cases h2;exact ⟨j,rfl,by omega,by omega,q _ w' R' F' (zmo (by omega))⟩
    ·cases hm'
   ·cases hm'
  ·rename_i hm';split at hm'<;>first | (split at hm'<;>cases hm') | cases hm'
  ·exact q.elim
theorem znc(hg:Gl X "range")(hm:X.mg "range" = none)(ha:PA X [a,e] (tAs cl E [fa,fc]))(hs:starEach [a,e] X.env=[(false,eval a X.env),(false,eval e X.env)])(hs2:starEach [e] X.env=[(false,eval e X.env)]):PI X tg (.Call (.Name "range" p) [a,e] [] pos) (tI cl E (zjL fa fc)):=by
 refine PI.imp (ziS hg hm ha hs hs2) ?_;rintro σ H Q ⟨B,w,ρ,S,rfl,R,q⟩;refine ⟨B,w,ρ,S,rfl,R,?_⟩;unfold zjL at q
 cases hf:zag [fa,fc] ρ S with
 | bad=>rwa [hf] at q
 | exc c S1=>rwa [hf] at q
 | ok ds S1 =>
  rw [hf] at q;intro vs w' R' F' h';dsimp only [Out.bind] at q;split at q
  ·rename_i ds' S' hm';split at hm'
   ·rename_i i j;split at hm'
    ·rename_i hb;cases hm'
     cases h' with
     | cons h1 h2 =>
      cases h1
      cases h2 with
      | cons h2 h3 =>
       cases h2;cases h3;exact ⟨i,j,rfl,by omega,q _ w' R' F' (zmo rfl)⟩
    ·cases hm'
   ·cases hm'
  ·rename_i hm';split at hm'<;>first | (split at hm'<;>cases hm') | cases hm'
  ·exact q.elim
end
noncomputable def zrh(ρ:Env)(i:Nat):Option (Bool×D):=match ρ[i]? with | some (some (false,d))=>some (false,d) | _=>none
def za8(n:Nat)(caps:List Nat)(ρ:Env):Env:=List.replicate n none++caps.map (zrh ρ)
def zmv:Fe:=zae (.bl true)
def zdR(tg:Tg)(c elt:Fe)(ρ0:Env):List D->Sto->Out (List D)
 | [],S=>.ok [] S
 | d::ds,S=>match tg.put ρ0 d with
  | none=>.bad
  | some ρ1=>(c ρ1 S).bind fun b S1=>match isB b with
   | some true=>(elt ρ1 S1).bind fun y S2=>(zdR tg c elt ρ0 ds S2).bind fun ys S3=>.ok (y::ys) S3
   | some false=>zdR tg c elt ρ0 ds S1
   | none=>.bad
def zdb(n:Nat)(tg:Tg)(it:Fi)(c elt:Fe)(caps:List Nat):Fe:=fun ρ S=>(it ρ S).bind fun ds S1=>match zdR tg c elt (za8 n caps ρ) ds S1 with
 | .ok ys S2=>if small ys.length then .ok (.lst ys) S2 else .bad
 | _=>.bad
noncomputable abbrev noE:St->XK:=fun _ _ _ _=>False
section
variable{cl:Cf}
theorem zjw{caps:List (Str×Nat)}(R:Rel cl B σ w ρ S)(W1:World' cl B1 w1 S1)(F1:Fut w w1){σ':St}(hσ:σ'.length=n+caps.length)(hc:σ'.drop n=caps.map fun p=>(σ[p.2]?).join) :
  Rel cl B1 σ' w1 (za8 n (caps.map (·.2)) ρ) S1 where
 wd:=W1
 len:=by unfold za8;rw [hσ,yau,yaO,yao,yao]
 slots:=fun i o d h=>by
  unfold za8 at h
  by_cases hi:i<n
  ·rw [yaF (by rw [yaO];exact hi),ybz] at h
   split at h<;>cases h
  ·rw [yav (by rw [yaO];omega),yaO,List.map_map,yaq] at h
   cases hp:caps[i-n]? with
   | none=>rw [hp] at h;cases h
   | some p =>
    rw [hp] at h;have h':zrh ρ p.2=some (o,d):=Option.some.inj h;unfold zrh at h';split at h'
    ·rename_i d' hd;cases h';obtain ⟨v,e,x⟩:=R.slots p.2 false d hd;refine ⟨v,?_,Shd.up F1 x⟩;have:=congrArg (fun l=>l[i-n]?) hc;rw [ybt,yaq,hp] at this;rw [show n+(i-n)=i by omega] at this;rw [this];show some ((σ[p.2]?).join)=_;rw [e];rfl
    ·cases h'
end
section
variable{X:Cx}{cl:Cf}{E:St->XK}
theorem zmB(q:tN cl E (zdb n t fi fc fe (caps.map (·.2))) σ H Q) :
  zgG (tI cl E fi) (tG cl n t) (tTr cl noE fc) (tE cl noE fe) n caps σ H Q:=by
 obtain ⟨B,w,ρ,S,rfl,R,q⟩:=q;refine ⟨B,w,ρ,S,rfl,R,?_⟩;unfold zdb at q
 cases hf:fi ρ S with
 | bad=>rwa [hf] at q
 | exc c S1=>rwa [hf] at q
 | ok ds S1 =>
  rw [hf] at q;dsimp only [Out.bind] at q;intro J w0 R0 F0 hJ
  cases hcd:zdR t fc fe (za8 n (caps.map (·.2)) ρ) ds S1 with
  | bad=>rw [hcd] at q;exact q.elim
  | exc _ _=>rw [hcd] at q;exact q.elim
  | ok all Sf =>
   rw [hcd] at q;dsimp only at q
   cases hz:small all.length with
   | false=>rw [hz,if_neg (by decide)] at q;exact q.elim
   | true =>
    rw [hz,if_pos rfl] at q;dsimp only at q;refine ⟨fun i m ys σ' H'=>m=ds.length-i/\i<=ds.length/\σ'.length=n+caps.length/\σ'.drop n=(caps.map fun p=>(σ[p.2]?).join)/\∃w1 S2 es za9,w1.H=H'/\Fut w0.inn w1/\World' cl w0.base w1 S2/\Shds cl w1 ys es/\zdR t fc fe (za8 n (caps.map (·.2)) ρ) (ds.drop i) S2=.ok za9 Sf/\es++za9=all,⟨ds.length,by simp,ya1 _,by simp [capσ],by simp [capσ],w0.inn,S1,[],all,rfl,Fut.refl _,R0.wd.enter,.nil,by rw [List.drop_zero];exact hcd,rfl⟩,?_⟩;rintro i m ys σ1 H1 ⟨rfl,hi,hl1,hd1,w1,S2,es,za9,rfl,F1,W1,sh,hrest,hall⟩;refine ⟨?_,?_⟩
    ·rw [sh.length];refine yas ?_ (zav hz);rw [<-hall,yau];omega
    have F1':Fut w0 w1:=(za6 w0).trans F1
    by_cases hlt:i<ds.length
    ·obtain ⟨d,hdi⟩:∃d,ds[i]?=some d:=⟨ds[i],yac hlt⟩
     have hdr:ds.drop i=d::ds.drop (i+1):=by
      rw [ych hlt];rw [yac hlt] at hdi;cases hdi;rfl
     rw [hdr] at hrest;unfold zdR at hrest;refine .inr ⟨hJ.go w1 F1' i hlt,fun x H' y=>?_⟩;obtain ⟨w2,rfl,g2,s2⟩:=hJ.yld w1 F1' i d x H' hdi y;have R1:Rel cl w0.base σ1 w2 (za8 n (caps.map (·.2)) ρ) S2:=zjw R0 (W1.grow g2) (F1'.trans g2.fut) hl1 hd1
     cases hp:t.put (za8 n (caps.map (·.2)) ρ) d with
     | none=>rw [hp] at hrest;cases hrest
     | some ρ1 =>
      rw [hp] at hrest;dsimp only at hrest;refine ⟨w0.base,w2,_,S2,d,ρ1,rfl,R1,s2,hp,fun σ2 hk1 hk2 R2=>⟨w0.base,w2,ρ1,S2,rfl,R2,?_⟩⟩
      cases hc:fc ρ1 S2 with
      | bad=>rw [hc] at hrest;cases hrest
      | exc _ _=>rw [hc] at hrest;cases hrest
      | ok b S3 =>
       rw [hc] at hrest;dsimp only [Out.bind] at hrest ⊢
       cases hb:isB b with
       | none=>rw [hb] at hrest;cases hrest
       | some bb =>
        rw [hb] at hrest;intro w3 R3 F3
        cases bb with
        | false=>exact zli ⟨ds.length-(i+1),by omega,rfl,hlt,hk1.trans hl1,hk2.trans hd1,w3,S3,es,za9,rfl,F1.trans (g2.fut.trans F3),R3.wd,sh.up (g2.fut.trans F3),hrest,hall⟩
        | true =>
         refine zlh ⟨w0.base,w3,ρ1,S3,rfl,R3,?_⟩;dsimp only at hrest
         cases he:fe ρ1 S3 with
         | bad=>rw [he] at hrest;cases hrest
         | exc _ _=>rw [he] at hrest;cases hrest
         | ok yv S4 =>
          rw [he] at hrest;dsimp only at hrest
          cases hr:zdR t fc fe (za8 n (caps.map (·.2)) ρ) (ds.drop (i+1)) S4 with
          | bad=>rw [hr] at hrest;cases hrest
          | exc _ _=>rw [hr] at hrest;cases hrest
          | ok zs S5 =>
           rw [hr] at hrest;cases hrest;intro v w4 R4 F4 h4;have ff:=g2.fut.trans (F3.trans F4);exact ⟨ds.length-(i+1),by omega,rfl,hlt,hk1.trans hl1,hk2.trans hd1,w4,S4,es++[yv],zs,rfl,F1.trans ff,R4.wd,(sh.up ff).append (.cons h4 .nil),hr,by rw [<-hall,ydf];rfl⟩
    ·have e:i=ds.length:=by omega
     subst e;rw [List.drop_length] at hrest;cases hrest;rw [yaV] at hall;subst hall;refine .inl ⟨hJ.stop w1 F1',fun p hp=>?_⟩;obtain ⟨Rb,Fb⟩:=R0.leave W1 F1;exact q p (.lst ys) (w0.back w1) Rb (F0.trans Fb) hp (.lst (sh.up (zbj W1)))
end
end S2
namespace L2
open PySem PySem.Spec PyProof.Rows
def CXE(P:Program)(w:World):CXT:=fun outer H s E e s'=>∃(a:Addr) (cls a0:Value) (H':Hp) (B:Heap),e=.ref a/\Heap.FlyingW B outer a cls a0 s'.heap ∧
 (∀b o,s'.heap.get? b=some o->H' b≠none->B.get? b=some o)/\(∀b o,s.heap.get? b=some o->H b=none->b ∉ frs outer->B.get? b=some o) ∧
 (∀b o,s.heap.get? b=some o->b ∉ frs outer->∃o',B.get? b=some o') ∧
 s'.os=s.os/\AllBare s'.gens/\Un (frs outer) [] H H' s.heap s'.heap/\HOk P w H' s'.heap/\E cls none H'
def zaX.has(x:zaX P w H h a o):∃ob,h.get? a=some ob:=by
 cases o with
 | lst xs=>obtain ⟨_,_,_,_,e⟩:=x;exact ⟨_,e⟩
 | tup xs=>obtain ⟨_,_,_,ob,e,_⟩:=x;exact ⟨_,e⟩
 | dK kvs=>obtain ⟨_,_,_,_,o,_,_,e,_⟩:=x;exact ⟨_,e⟩
 | dT kvs=>obtain ⟨_,_,_,_,o,_,_,e,_⟩:=x;exact ⟨_,e⟩
 | set S n=>obtain ⟨o,_,_,_,e,_⟩:=x;exact ⟨_,e⟩
 | ins C dx fs=>obtain ⟨_,_,_,e,_⟩:=x;exact ⟨_,e⟩
 | own y=>exact x
 | xd fs=>obtain ⟨_,⟨_,_,_,e,_⟩,_⟩:=x;exact ⟨_,e⟩
 | rng lo hi=>obtain ⟨_,_,_,e⟩:=x;exact ⟨_,e⟩
 | frz ob u=>obtain ⟨e,_⟩:=x;exact ⟨_,e⟩
 | tbl ps=>exact ⟨_,(show h.get? a=some _ from x)⟩
 | met f y=>exact ⟨_,(show h.get? a=some _ from x)⟩
 | ext φ=>obtain ⟨_,e,_⟩:=x;exact e
def HOk.same(x:HOk P w H h)(k:∀b u,h.get? b=some u->H b≠none->h'.get? b=some u):HOk P w H h':=fun a o e =>
 (x a o e).stay (fun b u hb q=>k b u q (hb.elim (fun z=>by rw [z,e];exact yat _) (fun z=>by rw [z];exact yat _))) (fun _ q=>q) fun _ _ q=>q
section
variable{X:Cx}{pins:Z3}{σ:St}{H:Hp}{s:Shared}{M:Model}
def zlr(l:List Env):∀env∈l,∀b,env.frame=some b->b∈frs l:=fun env he b hb=>ycn.mpr ⟨env,he,hb⟩
def zhO(I:Inv X pins σ H s)(hx:X.ex=[])(hs:X.stack=X.env::X.outer)(hf:X.env.frame=some X.env.locals)(mk:Heap.MadeExcOf s.heap h' e cls vs)(q:E cls none H) :
  wpAny M X.A (leaving X.env (.ref e)) (fun _ s''=>CXE X.prog X.w X.outer X.H₀ X.s₀ E (.ref e) s'') Er { s with heap:=h' }:=by
 have hfr:X.A.frames=some (X.env::X.outer):=by rw [<-hs];exact I.ok.frames
 have hst:s.heap.FunFrames X.base (X.env::X.outer):=by rw [<-hs];exact I.stack
 refine wpAny_leaves_madeW (base:=PySem.W.hideAll s.heap (frs (X.env::X.outer))) hfr hf (fun b o z=>PySem.W.of_hideAll _ z) (PySem.W.funFrames_hide hst (zlr _)) mk fun h2 t fl tup _ up=>?_
 have inB:∀b o,s.heap.get? b=some o->b ∉ frs (X.env::X.outer)->(PySem.W.hideAll s.heap (frs (X.env::X.outer))).get? b=some o:=fun b o z n=>PySem.W.hideAll_get _ z n
 have sub:∀b,b∈frs (X.env::X.outer)->b=X.env.locals\/b∈X.fs:=fun b hb=>by
  rw [<-hs] at hb;exact yan.mp (I.stkSub b hb)
 have fre:∀b,b∈frs (X.env::X.outer)->H b=none:=fun b hb=>by rw [<-hs] at hb;exact I.stkFree b hb
 have old:∀b o,X.s₀.heap.get? b=some o->b ∉ frs X.outer->b ∉ frs (X.env::X.outer):=fun b o z n hb=>by
  rcases sub b hb with r | r
  ·exact absurd (yak (yaj z) I.ok.above) (by rw [r];exact yaL _)
  ·exact n r
 have nx:∀b:Addr,b ∉ X.ex:=fun b z=>by rw [hx] at z;cases z
 have trk:∀b o,s.heap.get? b=some o->H b≠none->h2.get? b=some o:=fun b o z n=>fl.1 b o (inB b o z fun hb=>n (fre b hb))
 have hok2:HOk X.prog X.w H h2:=I.hok.same trk
 have slt:∀b o,s.heap.get? b=some o->b∈frs X.stack->∃sl,h2.get? b=some { o with slots:=sl }:=fun b o z hb=>by
  obtain ⟨_,o',z',hd⟩:=I.stack.mem hb;rw [z] at z';cases z';exact up b o (mk.keeps b o z) hd
 have un2:Un (frs X.stack) [] H H s.heap h2:=⟨fun b o z n hb _=>fl.1 b o (inB b o z (by rw [<-hs];exact hb)),fun b o z n hb _=>slt b o z hb,fun b o z n _=>n,
  fun b o z _=>by
   by_cases hb:b∈frs X.stack
   ·obtain ⟨sl,r⟩:=slt b o z hb;exact ⟨_,r⟩
   ·exact ⟨o,fl.1 b o (inB b o z (by rw [<-hs];exact hb))⟩,
  fun _ _ z=>z,fun _ _ _ z=>z,fun _ ps z=>⟨#[],by rw [z,Array.append_empty]⟩⟩
 have J:=I.call (g':=s.gens) (t':=s.toks) (d':=s.drawn) (ch:=[]) un2 hok2 I.bare (fun b z=>absurd z (by simp));refine ⟨e,cls,.ref t,H,_,rfl,fl,fun b o z n=>?_,fun b o z n hb=>?_,fun b o z hb=>?_,J.os,J.bare,?_,J.hok,q⟩
 ·cases k:H b with
  | none=>exact absurd k n
  | some u =>
   obtain ⟨o',z'⟩:=(I.hok b u k).has;have:=trk b o' z' n;rw [show h2.get? b=some o from z] at this;cases this;exact inB b o z' fun hb=>n (fre b hb)
 ·exact inB b o (I.base.keep b o z n hb (nx b)) (old b o z hb)
 ·obtain ⟨o',z'⟩:=I.base.there b o z (nx b);exact ⟨o',inB b o' z' (old b o z hb)⟩
 ·have:=J.base;rwa [hx] at this
def zg4(I:Inv X pins σ H s)(hx:X.ex=[])(hs:X.stack=X.env::X.outer)(hf:X.env.frame=some X.env.locals)(q:CXE X.prog X.w X.stack H s E e s') :
  wpAny M X.A (leaving X.env e) (fun _ s''=>CXE X.prog X.w X.outer X.H₀ X.s₀ E e s'') Er s':=by
 have hfr:X.A.frames=some (X.env::X.outer):=by rw [<-hs];exact I.ok.frames
 obtain ⟨a,cls,a0,H',B,rfl,fl,c1,c2,c3,os,bare,un,hok,q⟩:=q
 have fl':Heap.FlyingW B (X.env::X.outer) a cls a0 s'.heap:=by rw [<-hs];exact fl
 refine wpAny_leaves_onW hfr hf fl' fun h2 fl2 up=>?_
 have sub:∀b,b∈frs X.stack->b=X.env.locals\/b∈X.fs:=fun b hb=>yan.mp (I.stkSub b hb)
 have old:∀b o,X.s₀.heap.get? b=some o->b ∉ frs X.outer->b ∉ frs X.stack:=fun b o z n hb=>by
  rcases sub b hb with r | r
  ·exact absurd (yak (yaj z) I.ok.above) (by rw [r];exact yaL _)
  ·exact n r
 have nx:∀b:Addr,b ∉ X.ex:=fun b z=>by rw [hx] at z;cases z
 have trk:∀b o,s'.heap.get? b=some o->H' b≠none->h2.get? b=some o:=fun b o z n=>fl2.1 b o (c1 b o z n)
 have hok2:HOk X.prog X.w H' h2:=hok.same trk
 have slt:∀b o,s.heap.get? b=some o->H b=none->b∈frs X.stack->∃sl,h2.get? b=some { o with slots:=sl }:=fun b o z n hb=>by
  obtain ⟨_,o',z',hd⟩:=I.stack.mem hb;rw [z] at z';cases z';obtain ⟨sl,r⟩:=un.slot b o z n hb (by simp);obtain ⟨sl',r'⟩:=up b ({ o with slots:=sl }:Obj) r hd;exact ⟨sl',r'⟩
 have un2:Un (frs X.stack) [] H H' s.heap h2:=⟨fun b o z n hb _=>fl2.1 b o (c2 b o z n hb),fun b o z n hb _=>slt b o z n hb,un.free,
  fun b o z _=>by
   by_cases hb:b∈frs X.stack
   ·obtain ⟨sl,r⟩:=slt b o z (I.stkFree b hb) hb;exact ⟨_,r⟩
   ·obtain ⟨o',r⟩:=c3 b o z hb
    exact ⟨o',fl2.1 b o' r⟩,
  un.tups,un.frzs,un.tbls⟩
 have J:=I.call (g':=s'.gens) (t':=s'.toks) (d':=s'.drawn) (ch:=[]) un2 hok2 bare (fun b z=>absurd z (by simp));refine ⟨a,cls,a0,H',B,rfl,fl2,fun b o z n=>?_,fun b o z n hb=>?_,fun b o z hb=>?_,os.trans I.os,bare,?_,J.hok,q⟩
 ·cases k:H' b with
  | none=>exact absurd k n
  | some u =>
   obtain ⟨o',z'⟩:=(hok b u k).has;have:=trk b o' z' n;rw [show h2.get? b=some o from z] at this;cases this;exact c1 b o z' n
 ·exact c2 b o (I.base.keep b o z n hb (nx b)) (I.base.free b o z n (nx b)) (old b o z hb)
 ·obtain ⟨o',z'⟩:=I.base.there b o z (nx b);exact c3 b o' z' (old b o z hb)
 ·have:=J.base;rwa [hx] at this
end
def zp1{P:Program}{K:PySem.W.Frag} :
  zmF (CXE P w) (zfA (CXE P w) P w K mg base N qual scope f cd A outer s H E) E:=fun pins σ H1 s1 e s' I q =>
 zg4 (X:=zfA (CXE P w) P w K mg base N qual scope f cd A outer s H E) I rfl rfl rfl q
def zgk{K:PySem.W.Frag}{h:Heap}(k:K.In h)(z:PySem.W.excIn K C bmB nid=true) :
  ∃bm N nm qn bs hd sn sub ab col dd c0 c1 c2 c3 c5 mN,h.get? C=some (excClassObj nm qn C N bs bm hd sn sub ab col dd c0 c1 c2 c3 c5 nid)/\h.Ns N mN/\mN "__init__" = none/\OwnTail h bmB bm:=by
 unfold PySem.W.excIn at z;split at z
 case h_2=>cases z
 case h_1 dd cd sl ho =>
  split at z
  case h_2=>cases z
  case h_1 D bm c0 c1 c2 c3 n c5 e1 e2 =>
   simp only [yab,ybV,ybE] at z;obtain ⟨⟨⟨⟨⟨z1,z2⟩,z3⟩,z4⟩,z5⟩,z6⟩:=z;subst z1 z2
   have hsl:sl=#[c0,c1,c2,c3,some (.builtin n),c5]:=by
    cases sl with
    | mk l=>exact congrArg Array.mk e2
   have hcd:cd={ cd with mro:=.ref D::bm,hasDel:=false }:=by
    cases cd;simp only at e1 z3;simp only [e1,z3]
   rw [hsl,hcd] at ho;exact ⟨bm,cd.ns,cd.name,_,cd.bases,_,_,_,_,_,dd,c0,c1,c2,c3,c5,_,k _ _ ho,.of_isNs (PySem.W.isNs_of_in k z5),PySem.W.nsMap_none_of_in k z5 z6,PySem.W.tail_of_in k z4⟩
noncomputable def zrt(X:Cx)(E:XK):Prop:=∀(C:Addr) (pins:Z3) (σ:St) (H:Hp) (s:Shared) (e:Addr) (h':Heap) (vs:List Value),Inv X pins σ H s->Heap.MadeExcOf s.heap h' e (.ref C) vs->E (.ref C) none H->X.xe (.ref e) { s with heap:=h' }
def ziJ{P:Program}{K:PySem.W.Frag} :
  zrt (zfA (CXE P w) P w K mg base N qual scope f cd A outer s H E) E:=fun C pins σ H1 s1 e h' vs I mk q =>
 zhO (X:=zfA (CXE P w) P w K mg base N qual scope f cd A outer s H E) I rfl rfl rfl mk q
noncomputable def XP(X:Cx)(pins:Z3)(σ:St)(E:XK)(e:Value)(s':Shared):Prop:=∃H1 s1,Inv X pins σ H1 s1/\CXE X.prog X.w X.stack H1 s1 E e s'
def zez{M:Model}{A:Around}{E:Z5}{K:PySem.W.Frag}{s:Shared}{C D e:Addr}{oe:Obj}{bC bD:List Value}{iC iD:String}{Q:Bool->Shared->Prop}(k:K.In s.heap)(zC:PySem.W.excIn K C bC iC=true)(zD:PySem.W.excIn K D bD iD=true)
  (he:s.heap.get? e=some oe) (hc:oe.cls=.ref C) (hb:bD.contains (.type "BaseException")=true) (up:∃cd d cl sl,K.lookup C=some ⟨cl,d,.cls cd,sl⟩/\cd.mro.contains (.ref D)=true) (q:Q true s):wpAny M A (excMatches (.ref e) (.ref D)) Q E s:=by
 obtain ⟨bm,N,nm,qn,bs,hd,sn,sub,ab,col,dd,c0,c1,c2,c3,c5,mN,o1,o2,o3,o4⟩:=zgk k zC;obtain ⟨bm',N',nm',qn',bs',hd',sn',sub',ab',col',dd',d0,d1,d2,d3,d5,mN',p1,p2,p3,p4⟩:=zgk k zD;obtain ⟨cd,d,cl,sl,lk,ct⟩:=up;have o1':=k _ _ lk;rw [o1] at o1';have hcd:=congrArg Obj.data (Option.some.inj o1')
 have hcC:(Value.ref C::bm).contains (.ref D)=true:=by
  injection hcd with h
  rwa [<-h] at ct
 have hcB:(Value.ref D::bm').contains (.type "BaseException")=true:=by rw [ycu,p4.hasType hb,Bool.or_true]
 have f:=tc_notTuple;obtain ⟨h,g,dr,t,os⟩:=s;unfold excMatches
 repeat (first | (with_reducible refine ybF he ?_;rw [hc]) | with_reducible refine ybF p1 ?_ | (with_reducible refine wpAny_isSubtype_exc p1 ?_;rw [hcB]) | (with_reducible refine wpAny_isSubtype_exc o1 ?_;rw [hcC]) | wp_step)
 exact q
section
variable{X:Cx}{pins:Z3}{σ:St}{H:Hp}{s:Shared}
def zog{M:Model}{A:Around}{E:Z5}{i:Nat}{x:Str}{Q:Unit->Shared->Prop}(I:Inv X pins σ H s)(hN:X.N.Nodup)(hi:X.N[i]?=some x)(hk:X.env.scope.names.lookup x=some .local)(hv:∃v,σ[i]?=some (some v))
  (h:∀s',Inv X pins (σ.set i none) H s'->Q () s'):wpAny M A (unbindName X.env x) Q E s:=by
 obtain ⟨m,hn,hl⟩:=id I.loc
 have hcls:(X.env.scope.kind == .class||(X.env.scope.kind == .module&&X.env.locals != X.env.globals))=false:=by rw [I.ok.kind];rfl
 obtain ⟨v,hv⟩:=hv;obtain ⟨u,r,lk⟩:=hl i x v hi hv (.inl hk)
 have hm:m x=some u:=by
  rcases lk with ⟨_,z⟩ | ⟨z,_⟩
  ·exact z
  ·have z:X.env.scope.names.lookup x=some .cell\/X.env.scope.names.lookup x=some .free:=z;rw [hk] at z
   rcases z with z | z<;>cases z
 refine wpAny_unbindName_local hk hn hm hcls fun h' u' hn' hs=>h _ ?_
 have far:∀b o,X.s₀.heap.get? b=some o->b≠X.env.locals:=fun b o z=>yap (yak (yaj z) I.ok.above)
 refine ⟨I.ok,I.os,I.bare,⟨?_,?_,I.base.free,?_,I.base.tups,I.base.frzs,I.base.tbls⟩,⟨_,hn',?_⟩,?_,I.free,I.freeC,?_,?_,by simpa using I.len⟩
 ·exact fun b o z n hb hx=>(hs.2 b (far b o z)).trans (I.base.keep b o z n hb hx)
 ·exact fun b o z n hb hx=>let ⟨sl,z1⟩:=I.base.slot b o z n hb hx;⟨sl,(hs.2 b (far b o z)).trans z1⟩
 ·exact fun b o z hx=>let ⟨o',z1⟩:=I.base.there b o z hx;⟨o',(hs.2 b (far b o z)).trans z1⟩
 ·intro j y w e1 e2 e3
  have hj:j≠i:=fun z=>by
   subst z;have l1:j<σ.length:=(yai.mp hv).1;rw [yay l1] at e2;cases e2
  rw [yaQ (Ne.symm hj)] at e2;obtain ⟨u1,r1,q⟩:=hl j y w e1 e2 e3;refine ⟨u1,r1,?_⟩
  rcases q with ⟨k1,z⟩ | ⟨k1,c,z,z1⟩
  ·have ny:y≠x:=fun e=>hj (zey hN e1 (e ▸ hi))
   exact .inl ⟨k1,by simp [ny,z]⟩
  ·exact .inr ⟨k1,c,z,z1.sameBut hs (I.cne y c z)⟩
 ·exact fun y c z=>let ⟨w,z1⟩:=I.cell y c z;⟨w,z1.sameBut hs (I.cne y c z)⟩
 ·exact fun p hp=>let ⟨z,n,ne,nf,d⟩:=I.pin p hp;⟨(hs.2 p.1 ne).trans z,n,ne,nf,d⟩
 ·exact I.hok.same fun b o z n=>(hs.2 b fun e=>n (by rw [e];exact I.free)).trans z
def zeF{M:Model}{A:Around}{E:Z5}{i:Nat}{x:Str}{pos:Pos}{Q:Unit->Shared->Prop}(I:Inv X pins σ H s)(hN:X.N.Nodup)(hi:X.N[i]?=some x)(hk:X.env.scope.names.lookup x=some .local)
  (h:∀s',Inv X pins (σ.set i none) H s'->Q () s'):wpAny M A (do bindName X.env x .none;unbindBehindTheSuite X.env x pos) Q E s:=by
 refine yaa (wpAny_bindName (zbt (v:=.non) I hN hi (.inl hk) rfl (fun s2 I2=>?_) (.inr hk)));unfold unbindBehindTheSuite;refine wpAny_onRaise ?_
 have l1:i<σ.length:=by rw [I.len];exact (yai.mp hi).1
 refine zog I2 hN hi hk ⟨.non,yay l1⟩ fun s3 I3=>h s3 ?_
 rwa [List.set_set] at I3
end
section
variable{X:Cx}{pins:Z3}{σ:St}{H H':Hp}{s s':Shared}{B h2:Heap}{a:Addr}{cls a0:Value}
noncomputable abbrev Cx.inH(X:Cx)(a:Addr):Cx:={ X with A:=X.A.mark (some (.ref a)),calm:=false,xe:=fun _ _=>False }
theorem Inv.inH(I:Inv X pins σ H s)(a:Addr):Inv (X.inH a) pins σ H s :=
 ⟨⟨I.ok.mod,I.ok.kind,I.ok.glob,I.ok.blt,I.ok.above,I.ok.inj,I.ok.has,I.ok.cab,(fun z=>nomatch z),I.ok.frames,I.ok.stk,I.ok.exf,I.ok.bs,I.ok.bsz,I.ok.noex,I.ok.exfs,I.ok.funs,I.ok.frf⟩,I.os,I.bare,I.base,I.loc,I.cell,I.free,I.freeC,I.pin,I.hok,I.len⟩
def Inv.outH(J:X.Ok)(I:Inv (X.inH a) pins σ H s):Inv X pins σ H s:=⟨J,I.os,I.bare,I.base,I.loc,I.cell,I.free,I.freeC,I.pin,I.hok,I.len⟩
def zee(I:Inv X pins σ H s)(fl:Heap.FlyingW B X.stack a cls a0 h2)(up:s'.heap.UpToSlots h2)(c1:∀b o,s'.heap.get? b=some o->H' b≠none->B.get? b=some o)
  (c2:∀b o,s.heap.get? b=some o->H b=none->b ∉ frs X.stack->B.get? b=some o) (c3:∀b o,s.heap.get? b=some o->b ∉ frs X.stack->∃o',B.get? b=some o')
  (os:s'.os=s.os) (bare:AllBare s'.gens) (un:Un (frs X.stack) [] H H' s.heap s'.heap) (hok:HOk X.prog X.w H' s'.heap) :
  Inv X pins σ H' { s' with heap:=h2 }/\∃ob,ob.cls=cls/\h2.get? a=some ob/\H' a=none/\Inv X pins σ (upd H' a (.frz ob (.own a))) { s' with heap:=h2 }:=by
 have trk:∀b o,s'.heap.get? b=some o->H' b≠none->h2.get? b=some o:=fun b o z n=>fl.1 b o (c1 b o z n)
 have hok2:HOk X.prog X.w H' h2:=hok.same trk
 have slt:∀b o,s.heap.get? b=some o->H b=none->b∈frs X.stack->∃sl,h2.get? b=some { o with slots:=sl }:=fun b o z n hb=>by
  obtain ⟨_,o',z',hd⟩:=I.stack.mem hb;rw [z] at z';cases z';obtain ⟨sl,r⟩:=un.slot b o z n hb (by simp);obtain ⟨sl',r'⟩:=up b ({ o with slots:=sl }:Obj) r hd;exact ⟨sl',r'⟩
 have th:∀b o,s.heap.get? b=some o->b ∉ ([]:List Addr)->∃o',h2.get? b=some o':=fun b o z _=>by
  by_cases hb:b∈frs X.stack
  ·obtain ⟨sl,r⟩:=slt b o z (I.stkFree b hb) hb;exact ⟨_,r⟩
  ·obtain ⟨o',r⟩:=c3 b o z hb;exact ⟨o',fl.1 b o' r⟩
 have un2:Un (frs X.stack) [] H H' s.heap h2:=⟨fun b o z n hb _=>fl.1 b o (c2 b o z n hb),fun b o z n hb _=>slt b o z n hb,un.free,th,un.tups,un.frzs,un.tbls⟩;refine ⟨I.call' (s':={ s' with heap:=h2 }) (ch:=[]) os un2 hok2 bare (fun b z=>absurd z (by simp)),?_⟩;obtain ⟨oe,vs,he,hc,hd,_⟩:=fl.first
 have na:H' a=none:=by
  cases k:H' a with
  | none=>rfl
  | some u =>
   obtain ⟨o',z'⟩:=(hok a u k).has;have:=c1 a o' z' (by rw [k];exact yat _);rw [fl.2.1] at this;cases this
 have ns:∀o,s.heap.get? a=some o->False:=fun o z=>by
  by_cases hb:a∈frs X.stack
  ·obtain ⟨_,o',z',hd'⟩:=fl.2.2.1.mem hb;rw [he] at z';cases z';exact hd' _ hd
  ·obtain ⟨o',r⟩:=c3 a o z hb;rw [fl.2.1] at r;cases r
 have ne:∀{b:Addr} {u:HO},H' b=some u->b≠a:=fun {b u} z e=>by rw [e,na] at z;cases z
 refine ⟨oe,hc,he,na,I.call' (s':={ s' with heap:=h2 }) (ch:=[]) os ⟨un2.keep,un2.slot,fun b o z n hx=>?_,th,fun b xs z=>?_,fun b o u z=>?_,fun b ps z=>?_⟩ (fun b u z=>?_) bare (fun b z=>absurd z (by simp))⟩
 ·rw [zad (a:=a) (b:=b) fun e=>ns o (by rw [<-e];exact z)];exact un.free b o z n hx
 ·have:=un.tups b xs z;rw [zad (ne this)];exact this
 ·have:=un.frzs b o u z;rw [zad (ne this)];exact this
 ·obtain ⟨more,this⟩:=un.tbls b ps z;exact ⟨more,by rw [zad (ne this)];exact this⟩
 ·by_cases e:b=a
  ·subst e;unfold upd at z;rw [if_pos rfl] at z;cases z;exact ⟨he,oe,he⟩
  ·rw [zad e] at z;exact (hok2 b u z).stay (fun _ _ _ q=>q) (fun c q=>by rw [zad (ne q)];exact q) (fun c xs q=>by rw [zad (ne q)];exact q)
end
noncomputable def zlQ(K:PySem.W.Frag)(C D:Addr):Prop:=(∃bC iC,PySem.W.excIn K C bC iC=true)/\∃cd d cl sl,K.lookup C=some ⟨cl,d,.cls cd,sl⟩/\cd.mro.contains (.ref D)=true
noncomputable def Ends.goes(D:Ends)(i:Nat):Ends:={ nx:=fun σ H=>D.nx (σ.set i none) H,rt:=D.rt,bk:=fun σ H=>D.bk (σ.set i none) H,ct:=fun σ H=>D.ct (σ.set i none) H }
def zm9{X:Cx}{a:Addr}{pins:Z3}{D:Ends}{i:Nat}{n:Str}{pos:Pos}{f:Flow}{s:Shared}{E:Z5}(J:X.Ok)(hN:X.N.Nodup)(hi:X.N[i]?=some n)(hk:X.env.scope.names.lookup n=some .local)(h:SP (X.inH a) pins (D.goes i) f s) :
  wpAny (model X.prog X.w) X.A (do bindName X.env n .none;unbindBehindTheSuite X.env n pos) (fun _ s3=>SP X pins D f s3) E s:=by
 cases f with
 | next =>
  obtain ⟨σ',H',I,q⟩:=h;exact zeF (I.outH J) hN hi hk fun s' I'=>⟨_,H',I',q⟩
 | brk =>
  obtain ⟨σ',H',I,q⟩:=h;exact zeF (I.outH J) hN hi hk fun s' I'=>⟨_,H',I',q⟩
 | cont =>
  obtain ⟨σ',H',I,q⟩:=h;exact zeF (I.outH J) hN hi hk fun s' I'=>⟨_,H',I',q⟩
 | ret u =>
  obtain ⟨v,σ',H',I,r,q⟩:=h;exact zeF (I.outH J) hN hi hk fun s' I'=>⟨v,_,H',I',r,q⟩
end L2
namespace PySem.W
open PySem
structure ExcCls(K:Frag)(C:Addr):Prop where
 ga:findIn K (.ref C) "__getattribute__" = some (some (.builtin "BaseException.__getattribute__"))
 gt:findIn K (.ref C) "__getattr__" = some none
 cl:findIn K (.ref C) "__class__" = some (some (.builtin "object.__class__"))
 ob:subIn K (.ref C) (.type "object")=some true
 be:subIn K (.ref C) (.type "BaseException")=some true
 is:∃c d cd sl,K.lookup C=some ⟨c,d,.cls cd,sl⟩
section
variable{prog:Program}{w:World}{A:Around}{E:Z5}{h:Heap}{g:Array GenState}{d:Drawn}{t:Nat}{os:OsState}{a C:Addr}{o:Obj}{K:Frag}
def zeH{R:Result->Shared->Prop}(k:K.In h)(X:ExcCls K C)(hx:h.get? a=some o)(hc:o.cls=.ref C)(hq:R (.ok (.ret (.ref C))) ⟨h,g,d,t,os⟩) :
  codeAny (model prog w) A (.call (.builtin "getset_descriptor.__get__") ⟨[.builtin "object.__class__",.ref a,.ref C],[]⟩) R ⟨h,g,d,t,os⟩:=by
 have isGs:Shared.TypeIs ⟨h,g,d,t,os⟩ (.builtin "object.__class__") "getset_descriptor":=ycK
 have f8:subIn K (.ref C) (.type (".".intercalate ("object.__class__".cutAt '.').dropLast))=some true:=by rw [F.owner_object_class];exact X.ob
 refine ycd F.slot_gs_get.plain F.entry_gs_get ?_;refine F.slot_gs_get.check _ _ _ _ _ _ _ _ isGs (F.args_gs_get _ _ _) ?_
 repeat (any_goals (first | assumption | (with_reducible refine ybF hx ?_;rw [hc]) | with_reducible refine Looks.at (looks_subIn k f8) ?_ | wp_step))
 refine And.intro (yc9 _ (by decide +kernel)) ?_;refine ybr F.entry_object_class ?_
 repeat (any_goals (first | assumption | (with_reducible refine ybF hx ?_;rw [hc]) | wp_step))
def zdD{tk:Tok}{Q:Fin->Shared->Prop}(k:K.In h)(X:ExcCls K C)(hx:h.get? a=some o)(hc:o.cls=.ref C)(hq:Q (.done (.ret (.ref C))) ⟨h,g,d,t,os⟩) :
  wpAny (model prog w) A (Builtin.«object.__getattribute__» { pos:=[.ref a,.str "__class__" tk],kw:=[] }) Q E ⟨h,g,d,t,os⟩:=by
 have isGs:Shared.TypeIs ⟨h,g,d,t,os⟩ (.builtin "object.__class__") "getset_descriptor":=ycK;have known:=And.intro ycK (And.intro F.slot_gs_get.lookup F.slot_gs_set.lookup);obtain ⟨p5,p6,p7⟩:=known
 repeat (any_goals (first | assumption | (with_reducible refine ybF hx ?_;rw [hc]) | with_reducible refine Looks.at (looks_findIn k X.cl) ?_ | wp_step))
 refine zeH k X hx hc ?_
 repeat any_goals first | assumption | wp_step
end
section
variable{prog:Program}{w:World}{A:Around}{E:Z5}{h:Heap}{g:Array GenState}{d:Drawn}{t:Nat}{os:OsState}{a C:Addr}{o:Obj}{K:Frag}
def zdE{M:Model}{nameV:Value}{Q:Unit->Shared->Prop}(k:K.In h)(X:ExcCls K C)(hx:h.get? a=some o)(hc:o.cls=.ref C)(hq:Q () ⟨h,g,d,t,os⟩) :
  wpAny M A (checkBuiltinCall "BaseException.__getattribute__" ⟨[.ref a,nameV],[]⟩) Q E ⟨h,g,d,t,os⟩:=by
 have k1:builtinKind "BaseException.__getattribute__" = some .slot:=by decide +kernel
 have k2:splitId "BaseException.__getattribute__" = some ("BaseException","__getattribute__"):=by decide +kernel
 have fits:=F.args_bexc_ga (.ref a) nameV;simp only [checkBuiltinCall,k1,k2];refine yaa ?_;unfold isInstance
 repeat (first | (with_reducible refine ybF hx ?_;rw [hc]) | with_reducible refine Looks.at (looks_subIn k X.be) ?_ | wp_step)
 exact hq
def zdO{tk:Tok}{R:Result->Shared->Prop}(k:K.In h)(X:ExcCls K C)(hx:h.get? a=some o)(hc:o.cls=.ref C)(hq:R (.ok (.ret (.ref C))) ⟨h,g,d,t,os⟩) :
  codeAny (model prog w) A (.call (.builtin "BaseException.__getattribute__") ⟨[.ref a,.str "__class__" tk],[]⟩) R ⟨h,g,d,t,os⟩ :=
 ycd F.attr_ValueError.ga.plain F.entry_bexc_ga (zdE k X hx hc (zdD k X hx hc hq))
def zfw{tk:Tok}{fill expr:Bool}{Q:Z5}(k:K.In h)(X:ExcCls K C)(hx:h.get? a=some o)(hc:o.cls=.ref C)(hq:Q (.ref C) ⟨h,g,d,t,os⟩) :
  wpAny (model prog w) A (getAttrBy (.ref a) (.str "__class__" tk) fill expr) Q E ⟨h,g,d,t,os⟩:=by
 have f3:=F.attr_ValueError.ga.bind (.ref a)
 have n0:(expr&&onTheHeap (Value.builtin "BaseException.__getattribute__"))=false:=by cases expr<;>rfl
 have n2:(Value.builtin "BaseException.__getattribute__" == Value.builtin "object.__getattribute__")=false:=by decide +kernel
 have n1:(onTheHeap (Value.ref C)&&Value.builtin "BaseException.__getattribute__" == Value.builtin "object.__getattribute__")=false:=by rw [n2];rfl
 repeat (any_goals (first | assumption | (with_reducible refine ybF hx ?_;rw [hc]) | with_reducible refine Looks.at (looks_findIn k X.ga) ?_ | with_reducible refine Looks.at (looks_findIn k X.gt) ?_ | wp_step))
 refine zdO k X hx hc ?_
 repeat any_goals first | assumption | wp_step
def zdP{Q:Option Value->Shared->Prop}(k:K.In h)(X:ExcCls K C)(hx:h.get? a=some o)(hc:o.cls=.ref C)(hq:Q (some (.ref C)) ⟨h,g,d,t+1,os⟩):wpAny (model prog w) A (getAttr? (.ref a) "__class__") Q E ⟨h,g,d,t,os⟩:=by
 unfold getAttr? getAttrBy?
 repeat (any_goals (first | assumption | with_reducible apply zfw k X hx hc | wp_step))
end
def zle{K:Frag}{a C:Addr}(X:ExcCls K C):KitX K (.ref a) (.ref C) (fun h=>∃o,h.get? a=some o/\o.cls=.ref C) where
 ty:=fun M h _ p=>by
  obtain ⟨o,h1,h2⟩:=p;rw [<-h2];exact Looks.andThen (Looks.ld h1) .now
 it:=fun _ _ k _=>by
  obtain ⟨c,d,cd,sl,lk⟩:=X.is;intro A' Q' E' s' kk q;unfold isType loadHead;exact yaa (wpAny_loadPart (kk _ _ (k _ _ lk)) (yae q))
 ne:=fun h tp dd its n sl k htp=>by
  obtain ⟨c,d,cd,sl',lk⟩:=X.is;refine Bool.eq_false_iff.mpr fun q=>?_
  have e:C=tp:=Value.ref.inj (ybV.mp q);have z:=k _ _ lk;rw [e,htp] at z;cases z
 ca:=fun {_ _ _ _ _ s} k p q=>by
  obtain ⟨o,h1,h2⟩:=p;obtain ⟨h,g,d,t,os⟩:=s;exact zdP k X h1 h2 q
end PySem.W
namespace L2
open PySem PySem.Spec PyProof.Rows
def zhZ{X:Cx}:zbg X (.builtin "isinstance") (fun xs H Q=>∃(a C:Addr) (ob:Obj) (c:V) (cv:Value) (k:Bool),xs=[.ref a,c]/\H a=some (.frz ob (.own a))/\ob.cls=.ref C/\PySem.W.ExcCls X.K C/\(∀u,zaI c u->u=cv)/\PySem.W.kitOne X.K (.ref C) cv=some k/\Q (.bl k) H):=by
 intro pins s σ H xs us Q I r h;obtain ⟨a,C,ob,c,cv,k,rfl,ha,hc,Z,hv,e,q⟩:=h
 cases r with
 | cons r1 rr =>
  cases rr with
  | cons r2 r3 =>
   cases r3;cases (show _=Value.ref a from r1);rw [hv _ r2];obtain ⟨h1,_⟩:=(show zaX X.prog X.w H s.heap a (.frz ob (.own a)) from I.hok a _ ha);exact ya5 (PySem.W.zle Z) I.kIn ⟨ob,h1,hc⟩ e (fun z=>nomatch z) fun tk=>⟨.bl k,H,I.tok tk,rfl,q⟩
open PySem PySem.Spec PyProof.Rows PySem.SeqAt
theorem zgT(ns:List Int):∀j,j<=ns.length->preSum (fun i=>ns.getD i 0) j=(ns.take j).sum
 | 0,_=>by rw [List.take_zero];rfl
 | j+1,h=>by
  have ih:=zgT ns j (by omega);show preSum _ j+ns.getD j 0=_
  have e:ns.take (j+1)=ns.take j++[ns[j]]:=by rw [List.take_add_one,yac (by omega)];rfl
  have e2:ns.getD j 0=ns[j]:=by simp [List.getD,show j<ns.length by omega]
  rw [ih,e,e2,List.sum_append];simp
theorem ze9(ns:List Int)(h:∀n∈ns,0<=n/\n<=1000000):∀j,j<=ns.length->0<=preSum (fun i=>ns.getD i 0) j/\preSum (fun i=>ns.getD i 0) j<=1000000*(j:Int)
 | 0,_=>⟨Int.le_refl _,Int.le_refl _⟩
 | j+1,hj=>by
  have ih:=ze9 ns h j (by omega)
  have e:ns.getD j 0=ns[j]:=by simp [List.getD,show j<ns.length by omega]
  have hb:=h ns[j] (ybk (by omega));show 0<=preSum _ j+ns.getD j 0/\preSum _ j+ns.getD j 0<=_;rw [e]
  push_cast
  omega
section
variable{X:Cx}
theorem zlF(hc:X.calm=true):zbg X (.builtin "sum") (fun xs H Q=>∃(p:Addr) (ns:List Int),xs=[.ref p]/\SqL X.K H p (ns.map V.int)/\ns.length<=1000/\(∀n∈ns,0<=n/\n<=1000000)/\Q (.int ns.sum) H):=by
 intro pins s σ H xs us Q I r h;obtain ⟨p,ns,rfl,hq,hl1000,hb,q⟩:=h;obtain ⟨u,rfl,rx⟩:=zce r;cases rx;obtain ⟨its,rv,pl,hz⟩:=I.list hq;have hl:=pl.isList
 have hlt:p<s.heap.objs.size:=by obtain ⟨_,e,_⟩:=hl;exact yaj e
 have hn:its.length=ns.length:=by have:=rv.length;rw [yao] at this;exact this.symm
 refine call_sum_walk (yb7 hl ?_);refine ⟨s.heap.objs.size,[s.heap.objs.size,p],[s.heap.objs.size],its.toArray.size,_,_,fun i=>ns.getD i 0,rfl,Walks.list (A:=X.A.in1) (I.ok.hd hc) _ p (yap hlt) its.toArray,⟨⟨_,yag _ rfl,rfl,rfl⟩,hl.push _⟩,fun b hm=>?_,fun i v hP=>?_,fun j hj=>?_,fun h' tk t' hk=>?_⟩
 ·show b<(s.heap.push _).objs.size;rw [yaS];simp only [yan,yaJ,ybM] at hm
  rcases hm with z | z
  ·rw [z];exact ybj _
  ·rw [z];exact ybe hlt
 ·have hv:its[i]?=some v:=by simpa using hP
  have hi:i<ns.length:=by rw [<-hn];exact (yai.mp hv).1
  obtain ⟨u,hu,ru⟩:=rv.get (i:=i) (x:=.int ns[i]) (by rw [yaq,yac hi];rfl);rw [hv] at hu;cases hu;obtain ⟨t,rfl⟩:=ru;exact ⟨t,by simp [List.getD,hi]⟩
 ·rw [yaf,hn] at hj;have h1:=ze9 ns hb (j+1) hj
  have e:ns.getD j 0=ns[j]:=by simp [List.getD,hj]
  have h2:=hb ns[j] (ybk hj);refine ⟨?_,?_⟩
  ·show InLong (ns.getD j 0);rw [e];exact ⟨by omega,by omega⟩
  ·have:((j+1:Nat):Int)<=1000:=by omega
   exact ⟨by omega,by omega⟩
 ·rw [yaf,hn,zgT ns ns.length (yah _),List.take_length];refine ⟨.int _,H,I.kept (t':=tk) fun b o e=>?_,⟨t',rfl⟩,q⟩;exact hk b o (fun hm=>by rw [yaX.mp hm] at e;exact yaL _ (yaj e)) (yad _ e)
end
end L2
namespace S2
open PySem PySem.Spec PyProof.Rows L2
mutual
def D.py:D->PyData
 | .non=>.none
 | .bl b=>.bool b
 | .int i=>.int i
 | .str x=>.str x
 | .tup l=>.tuple (D.pys l)
 | .lst l=>.list (D.pys l)
 | .scr l=>.list (l.map PyData.int)
 | .dic _=>.none
 | .ref _=>.none
 | .exc _=>.none
def D.pys:List D->List PyData
 | []=>[]
 | d::l=>d.py::D.pys l
end
mutual
def D.fit:Nat->D->Bool
 | _,.non=>true
 | _,.bl _=>true
 | _,.int _=>true
 | _,.str x=>PyData.strOk x
 | 0,.tup _=>false
 | n+1,.tup l=>D.fits n l
 | 0,.lst _=>false
 | n+1,.lst l=>D.fits n l
 | 0,.scr _=>false
 | _+1,.scr _=>true
 | _,.dic _=>false
 | _,.ref _=>false
 | _,.exc _=>false
def D.fits:Nat->List D->Bool
 | _,[]=>true
 | n,d::l=>d.fit n&&D.fits n l
end
theorem zg6:∀(l:List Int),PyData.canLayAll0 (l.map PyData.int)=true/\PyData.depthAll (l.map PyData.int)=0
 | []=>⟨rfl,rfl⟩
 | i::l=>by
  obtain ⟨a,b⟩:=zg6 l;exact ⟨by simp [PyData.canLayAll0,PyData.canLay0,a],by simp [PyData.depthAll,PyData.depth,b]⟩
mutual
theorem D.lay:∀{n:Nat} {d:D},d.fit n=true->d.py.canLay0=true/\d.py.depth<=n
 | _,.non,_=>⟨rfl,ya1 _⟩
 | _,.bl _,h=>⟨rfl,ya1 _⟩
 | _,.int _,_=>⟨rfl,ya1 _⟩
 | _,.str x,h=>⟨by simpa [D.fit,D.py,PyData.canLay0] using h,ya1 _⟩
 | 0,.tup _,h=>by simp [D.fit] at h
 | 0,.lst _,h=>by simp [D.fit] at h
 | 0,.scr _,h=>by simp [D.fit] at h
 | n+1,.scr l,h=>by
  obtain ⟨a,b⟩:=zg6 l;exact ⟨by simpa [D.py,PyData.canLay0] using a,by simp only [D.py,PyData.depth];omega⟩
 | _,.dic _,h=>by simp [D.fit] at h
 | _,.ref _,h=>by simp [D.fit] at h
 | _,.exc _,h=>by simp [D.fit] at h
 | n+1,.tup l,h=>by
  have h':D.fits n l=true:=by simpa [D.fit] using h
  obtain ⟨a,b⟩:=D.lays h';exact ⟨by simpa [D.py,PyData.canLay0] using a,by simp only [D.py,PyData.depth];omega⟩
 | n+1,.lst l,h=>by
  have h':D.fits n l=true:=by simpa [D.fit] using h
  obtain ⟨a,b⟩:=D.lays h';exact ⟨by simpa [D.py,PyData.canLay0] using a,by simp only [D.py,PyData.depth];omega⟩
theorem D.lays:∀{n:Nat} {l:List D},D.fits n l=true->PyData.canLayAll0 (D.pys l)=true/\PyData.depthAll (D.pys l)<=n
 | _,[],_=>⟨rfl,ya1 _⟩
 | n,d::l,h=>by
  simp only [D.fits,yab] at h;obtain ⟨a,b⟩:=D.lay h.1;obtain ⟨c,e⟩:=D.lays h.2;exact ⟨by simp [D.pys,PyData.canLayAll0,a,c],by simp only [D.pys,PyData.depthAll];omega⟩
end
section
variable{X:Cx}{cl:Cf}{w:Wd}
def TopV.lstI(h:TopV cl w v (.lst ds)):∃a xs,v=.ref a/\w.H a=some (.lst xs)/\Shds cl w xs ds:=by
 cases h with
 | sh h=>cases h with
  | lst e k r=>exact ⟨_,_,rfl,e,r⟩
 | ow e t=>cases t with
  | lst r=>exact ⟨_,_,rfl,e,r⟩
def TopV.tupI(h:TopV cl w v (.tup ds)):∃a xs,v=.ref a/\w.H a=some (.tup xs)/\w.ow a=none/\Shds cl w xs ds:=by
 cases h with
 | sh h=>cases h with
  | tup e k r=>exact ⟨_,_,rfl,e,k,r⟩
 | ow e t=>cases t
def TopV.intI(h:TopV cl w v (.int i)):v=.int i:=by
 cases h with
 | sh h=>cases h;rfl
 | ow e t=>cases t
def TopV.strI(h:TopV cl w v (.str i)):v=.str i:=by
 cases h with
 | sh h=>cases h;rfl
 | ow e t=>cases t
def TopV.blI(h:TopV cl w v (.bl i)):v=.bl i:=by
 cases h with
 | sh h=>cases h;rfl
 | ow e t=>cases t
def TopV.nonI(h:TopV cl w v .non):v=.non:=by
 cases h with
 | sh h=>cases h;rfl
 | ow e t=>cases t
def Shd.scrI(hK:X.K=cl.K)(h:Shd cl w v (.scr l)):∃a,v=.ref a/\SqL X.K w.H a (l.map V.int):=by
 cases h with
 | scr e k=>exact ⟨_,rfl,.inl (.inr ⟨_,e⟩)⟩
 | scrK h=>exact ⟨_,rfl,by rw [hK];exact h _⟩
theorem TopV.scrI(hK:X.K=cl.K)(h:TopV cl w v (.scr l)):∃a,v=.ref a/\SqL X.K w.H a (l.map V.int):=by
 cases h with
 | sh h=>exact h.scrI hK
 | ow e t=>cases t
def zgQ(I:Inv X pins σ w.H s)(hK:X.K=cl.K)(h:Shd cl w v (.scr l))(r:zaI v u):∃as,Reads s.heap u (D.scr l).py as:=by
  obtain ⟨a,rfl,hq⟩:=h.scrI hK;cases r;obtain ⟨its,rv,p,_⟩:=I.list hq;obtain ⟨o,ho,hc,n,hd⟩:=id p.isList
  have go:∀{l:List Int} {us:List Value},Vals (l.map V.int) us->∃as,ReadsAll s.heap us (l.map PyData.int) as:=by
   intro l
   induction l with
   | nil=>intro us h;cases h;exact ⟨_,.nil⟩
   | cons i l ih =>
    intro us h
    cases h with
    | cons h1 h2 =>
     obtain ⟨t,rfl⟩:=h1;obtain ⟨as,ra⟩:=ih h2;exact ⟨_,.cons (.int i t) ra⟩
  obtain ⟨as,ra⟩:=go rv;exact ⟨_,.list ho hc hd (by simpa using ra)⟩
mutual
theorem zpF{pins:Z3}{σ:St}{s:Shared}(I:Inv X pins σ w.H s)(hK:X.K=cl.K):∀{v:V} {d:D} {n:Nat},Shd cl w v d->d.fit n=true->∀{u:Value},zaI v u->∃as,Reads s.heap u d.py as
 | _,_,_,.non,_,_,r=>by cases r;exact ⟨_,.none⟩
 | _,_,_,.bl b,_,_,r=>by cases r;exact ⟨_,.bool b⟩
 | _,_,_,.int i,_,_,r=>by obtain ⟨t,rfl⟩:=r;exact ⟨_,.int i t⟩
 | _,_,_,.str x,_,_,r=>by obtain ⟨t,rfl⟩:=r;exact ⟨_,.str x t⟩
 | _,_,0,.tup _ _ _,h,_,_=>by simp [D.fit] at h
 | _,_,0,.lst _ _ _,h,_,_=>by simp [D.fit] at h
 | _,_,n+1,.tup (a:=a) e _ rs,h,_,r=>by
  cases r;obtain ⟨its,rv,p,_⟩:=I.tuple (SqT.of (K:=X.K) e);obtain ⟨o,ho,hc,n,hd⟩:=id p;obtain ⟨as,ra⟩:=zbM I hK rs (by simpa [D.fit] using h) rv;exact ⟨_,.tuple ho hc hd (by simpa using ra)⟩
 | _,_,n+1,.lst (a:=a) e _ rs,h,_,r=>by
  cases r;obtain ⟨its,rv,p,_⟩:=I.list (SqL.of (K:=X.K) e);obtain ⟨o,ho,hc,n,hd⟩:=id p.isList;obtain ⟨as,ra⟩:=zbM I hK rs (by simpa [D.fit] using h) rv;exact ⟨_,.list ho hc hd (by simpa using ra)⟩
 | _,_,n,.scr e k,h,_,r=>zgQ I hK (.scr e k) r
 | _,_,n,.scrK e,h,_,r=>zgQ I hK (.scrK e) r
 | _,_,n,.dicK _ _ _,h,_,_=>by simp [D.fit] at h
 | _,_,n,.dicT _ _ _,h,_,_=>by simp [D.fit] at h
 | _,_,n,.dicN _ _,h,_,_=>by simp [D.fit] at h
 | _,_,n,.dicX _ _ _,h,_,_=>by simp [D.fit] at h
 | _,_,n,.ref _,h,_,_=>by simp [D.fit] at h
 | _,_,n,.exc _ _ _,h,_,_=>by simp [D.fit] at h
theorem zbM{pins:Z3}{σ:St}{s:Shared}(I:Inv X pins σ w.H s)(hK:X.K=cl.K):∀{vs:List V} {ds:List D} {n:Nat},Shds cl w vs ds->D.fits n ds=true->∀{us:List Value},Vals vs us->∃as,ReadsAll s.heap us (D.pys ds) as
 | _,_,_,.nil,_,_,r=>by cases r;exact ⟨_,.nil⟩
 | _,_,n,.cons h t,f,_,r=>by
  simp only [D.fits,yab] at f
  cases r with
  | cons r1 r2 =>
   obtain ⟨as,a⟩:=zpF I hK h f.1 r1;obtain ⟨bs,b⟩:=zbM I hK t f.2 r2;exact ⟨_,.cons a b⟩
end
def zep(I:Inv X pins σ w.H s)(hK:X.K=cl.K)(h:TopV cl w v d)(f:d.fit n=true)(r:zaI v u):∃as,Reads s.heap u d.py as:=by
 cases h with
 | sh h=>exact zpF I hK h f r
 | ow e t =>
  cases t with
  | lst rs =>
   cases n with
   | zero=>simp [D.fit] at f
   | succ n =>
    cases r;obtain ⟨its,rv,p,_⟩:=I.list (SqL.of (K:=X.K) e);obtain ⟨o,ho,hc,n,hd⟩:=id p.isList;obtain ⟨as,ra⟩:=zbM I hK rs (by simpa [D.fit] using f) rv;exact ⟨_,.list ho hc hd (by simpa using ra)⟩
  | dicK _=>simp [D.fit] at f
  | dicT _=>simp [D.fit] at f
  | dicN=>simp [D.fit] at f
  | dicX _=>simp [D.fit] at f
noncomputable def zer(d e:D):Bool:=d.py.eqv e.py
def eqD(d e:D):Option D:=if d.fit 9&&e.fit 9 then some (.bl (zer d e)) else none
noncomputable def neD(d e:D):Option D:=if d.fit 9&&e.fit 9 then some (.bl (!zer d e)) else none
theorem zsT(hK:X.K=cl.K)(hu:X.A.units+64<cLine):OpD X cl (compareOp .Eq) eqD:=by
 intro pins s σ H x y v u Q I rx ry h;obtain ⟨w,d,e,r,rfl,hx,hy,hg,q⟩:=h;unfold eqD at hg;split at hg
 ·rename_i hf;cases hg;rw [yab] at hf;obtain ⟨as,ra⟩:=zep I hK hx hf.1 rx;obtain ⟨bs,rb⟩:=zep I hK hy hf.2 ry;obtain ⟨l1,d1⟩:=D.lay hf.1;obtain ⟨l2,d2⟩:=D.lay hf.2;exact SeqAt.compareEq_reads ra rb l1 l2 (by omega) ⟨.bl _,w.H,I,rfl,q _ w (Grow.refl _) (.bl _)⟩
 ·cases hg
def zqg(hK:X.K=cl.K)(hu:X.A.units+64<cLine):OpD X cl (compareOp .NotEq) neD:=by
 intro pins s σ H x y v u Q I rx ry h;obtain ⟨w,d,e,r,rfl,hx,hy,hg,q⟩:=h;unfold neD at hg;split at hg
 ·rename_i hf;cases hg;rw [yab] at hf;obtain ⟨as,ra⟩:=zep I hK hx hf.1 rx;obtain ⟨bs,rb⟩:=zep I hK hy hf.2 ry;obtain ⟨l1,d1⟩:=D.lay hf.1;obtain ⟨l2,d2⟩:=D.lay hf.2;exact SeqAt.compareNe_reads ra rb l1 l2 (by omega) ⟨.bl _,w.H,I,rfl,q _ w (Grow.refl _) (.bl _)⟩
 ·cases hg
noncomputable def zku:D->Option (List D) | .lst l=>some l | .tup l=>some l | _=>none
noncomputable def zml(d:D)(l:List D):Bool:=l.any fun e=>zer e d
def inD(d e:D):Option D:=match zku e with | some l=>if d.fit 8&&D.fits 8 l then some (.bl (zml d l)) else none | none=>none
def zsV(d e:D):Option D:=match zku e with | some l=>if d.fit 8&&D.fits 8 l then some (.bl (!zml d l)) else none | none=>none
def zb2{s:Shared}{its:List Value}{d:D}(ra:ReadsAll s.heap its (D.pys ds) as)(f:D.fits 8 ds=true):(its.toArray.any fun y=>(SeqAt.readOf s.heap y).eqv d.py)=zml d ds:=by
 rw [SeqAt.any_by_data (vs:=its.toArray) (xs:=D.pys ds) (as:=as) (by simpa using ra) (D.lays f).1]
 have:∀{l:List D},((D.pys l).any fun y=>y.eqv d.py)=zml d l:=by
  intro l
  induction l with
  | nil=>rfl
  | cons e l ih =>
   show (e.py.eqv d.py||(D.pys l).any fun y=>y.eqv d.py)=(zer e d||zml d l);rw [ih];rfl
 exact this
theorem za4{A:Around}{s:Shared}{d:D}(hu:A.units+64<cLine)(rx:Reads s.heap x d.py bs)(fd:d.fit 8=true):∀{its:List Value} {ds:List D} {as:List Addr},ReadsAll s.heap its (D.pys ds) as->D.fits 8 ds=true->∀y,y∈its.toArray->SeqAt.EqAt A.in1 s y x ((SeqAt.readOf s.heap y).eqv d.py)
 | [],[],_,_,_,y,hy=>by simp at hy
 | [],_::_,_,h,_,_,_=>by cases h
 | _::_,[],_,h,_,_,_=>by cases h
 | v::its,e::ds,_,h,f,y,hy=>by
  simp only [D.fits,yab] at f
  cases h with
  | cons h1 h2 =>
   simp at hy
   rcases hy with rfl | hy
   ·rw [zf7 (D.lay f.1).1 h1];refine SeqAt.eqAt_reads _ _ _ _ _ _ _ _ h1 rx (D.lay f.1).1 (D.lay fd).1 ?_;have:=(D.lay f.1).2;show A.units+1+_<cLine;omega
   ·exact za4 hu rx fd h2 f.2 y (by simpa using hy)
def ziz(h:zku e=some l):e=.lst l\/e=.tup l:=by
 cases e<;>simp [zku] at h
 ·exact .inr (by rw [h])
 ·exact .inl (by rw [h])
def zsS(hK:X.K=cl.K)(hu:X.A.units+64<cLine):OpD X cl (compareOp .In) inD:=by
 intro pins s σ H x y v u Q I rx ry h;obtain ⟨w,d,e,r,rfl,hx,hy,hg,q⟩:=h;unfold inD at hg;split at hg
 ·rename_i l hl;split at hg
  ·rename_i hf;cases hg;rw [yab] at hf;obtain ⟨bs,rb⟩:=zep I hK hx hf.1 rx
   rcases ziz hl with rfl | rfl
   ·obtain ⟨a,xs,rfl,e,rs⟩:=hy.lstI;cases ry;obtain ⟨its,rv,p,_⟩:=I.list (SqL.of (K:=X.K) e);obtain ⟨as,ra⟩:=zbM I hK rs hf.2 rv;refine SeqAt.in_listAt _ p.isList (za4 hu rb hf.1 ra hf.2) ?_;rw [zb2 ra hf.2];exact ⟨.bl _,w.H,I,rfl,q _ w (Grow.refl _) (.bl _)⟩
   ·obtain ⟨a,xs,rfl,e,_,rs⟩:=hy.tupI;cases ry;obtain ⟨its,rv,p,_⟩:=I.tuple (SqT.of (K:=X.K) e);obtain ⟨as,ra⟩:=zbM I hK rs hf.2 rv;refine SeqAt.in_tupleAt _ p (za4 hu rb hf.1 ra hf.2) ?_;rw [zb2 ra hf.2];exact ⟨.bl _,w.H,I,rfl,q _ w (Grow.refl _) (.bl _)⟩
  ·cases hg
 ·cases hg
def zqf(hK:X.K=cl.K)(hu:X.A.units+64<cLine):OpD X cl (compareOp .NotIn) zsV:=by
 intro pins s σ H x y v u Q I rx ry h;obtain ⟨w,d,e,r,rfl,hx,hy,hg,q⟩:=h;unfold zsV at hg;split at hg
 ·rename_i l hl;split at hg
  ·rename_i hf;cases hg;rw [yab] at hf;obtain ⟨bs,rb⟩:=zep I hK hx hf.1 rx
   rcases ziz hl with rfl | rfl
   ·obtain ⟨a,xs,rfl,e,rs⟩:=hy.lstI;cases ry;obtain ⟨its,rv,p,_⟩:=I.list (SqL.of (K:=X.K) e);obtain ⟨as,ra⟩:=zbM I hK rs hf.2 rv;refine SeqAt.notIn_listAt _ p.isList (za4 hu rb hf.1 ra hf.2) ?_;rw [zb2 ra hf.2];exact ⟨.bl _,w.H,I,rfl,q _ w (Grow.refl _) (.bl _)⟩
   ·obtain ⟨a,xs,rfl,e,_,rs⟩:=hy.tupI;cases ry;obtain ⟨its,rv,p,_⟩:=I.tuple (SqT.of (K:=X.K) e);obtain ⟨as,ra⟩:=zbM I hK rs hf.2 rv;refine SeqAt.notIn_tupleAt _ p (za4 hu rb hf.1 ra hf.2) ?_;rw [zb2 ra hf.2];exact ⟨.bl _,w.H,I,rfl,q _ w (Grow.refl _) (.bl _)⟩
  ·cases hg
 ·cases hg
def zda:D->D->Option D
 | .int i,.int j=>some (.int (i+j))
 | .tup a,.tup b=>if small (a.length+b.length) then some (.tup (a++b)) else none
 | .lst a,.lst b=>if small (a.length+b.length) then some (.lst (a++b)) else none
 | .str a,.str b=>if small (a.length+b.length) then some (.str (a++b)) else none
 | _,_=>none
def zmj:OpD X cl (binaryOp .Add) zda:=by
 intro pins s σ H x y v u Q I rx ry h;obtain ⟨w,d,e,r,rfl,hx,hy,hg,q⟩:=h;unfold zda at hg;split at hg
 ·cases hg;rename_i i j;obtain rfl:=hx.intI;obtain rfl:=hy.intI;exact zp9 pins s σ w.H _ _ v u Q I rx ry ⟨i,j,rfl,rfl,q _ w (Grow.refl _) (.int _)⟩
 ·rename_i a b;split at hg
  ·rename_i hz;cases hg;obtain ⟨p,xs,rfl,ep,kp,rs⟩:=hx.tupI;obtain ⟨p2,ys,rfl,ep2,kp2,rs2⟩:=hy.tupI
   by_cases hxe:xs=[]
   ·subst hxe;cases rs;exact zk0 pins s σ w.H _ _ v u Q I rx ry ⟨p,p2,ys,rfl,rfl,SqT.of ep,SqT.of ep2,q _ w (Grow.refl _) (.tup ep2 kp2 rs2)⟩
   ·refine znM pins s σ w.H _ _ v u Q I rx ry ⟨p,p2,xs,ys,rfl,rfl,SqT.of ep,SqT.of ep2,hxe,by rw [rs.length,rs2.length];exact zav hz,fun z=>?_,fun z l hl=>?_⟩
    ·subst z;cases rs2;rw [yaV] at q;exact q _ w (Grow.refl _) (.tup ep kp rs)
    ·exact q _ (w.add l _) (zah hl _) (Shd.newT hl (rs.append rs2))
  ·cases hg
 ·rename_i a b;split at hg
  ·rename_i hz;cases hg;obtain ⟨p,xs,rfl,ep,rs⟩:=hx.lstI;obtain ⟨p2,ys,rfl,ep2,rs2⟩:=hy.lstI;exact zp8 pins s σ w.H _ _ v u Q I rx ry ⟨p,p2,xs,ys,rfl,rfl,ep,ep2,by rw [rs.length,rs2.length];exact zav hz,fun l hl=>q _ (w.add l _) (zah hl _) (Shd.newL hl (rs.append rs2))⟩
  ·cases hg
 ·rename_i a b;split at hg
  ·rename_i hz;cases hg;obtain rfl:=hx.strI;obtain rfl:=hy.strI;exact zhJ pins s σ w.H _ _ v u Q I rx ry ⟨a,b,rfl,rfl,zav hz,q _ w (Grow.refl _) (.str _)⟩
  ·cases hg
 ·cases hg
noncomputable def zrD:D->D->Option D | .int i,.int j=>some (.int (i-j)) | _,_=>none
def zqd:OpD X cl (binaryOp .Sub) zrD:=by
 intro pins s σ H x y v u Q I rx ry h;obtain ⟨w,d,e,r,rfl,hx,hy,hg,q⟩:=h;unfold zrD at hg;split at hg
 ·cases hg;rename_i i j;obtain rfl:=hx.intI;obtain rfl:=hy.intI;exact zp3 pins s σ w.H _ _ v u Q I rx ry ⟨i,j,rfl,rfl,q _ w (Grow.refl _) (.int _)⟩
 ·cases hg
noncomputable def zbF(i:Int):Bool:=decide (-(2 ^ 64)<i/\i<2 ^ 64)
def zi8:D->D->Option D
 | .int i,.int j=>if zbF i||zbF j then some (.int (i*j)) else none
 | .tup a,.int j=>if decide (1<=j/\j<=1000/\a≠[]/\a.length<=1000) then some (.tup (List.replicate j.toNat a).flatten) else none
 | .lst a,.int j=>if decide (0<=j/\j<=1000/\a.length<=1000) then some (.lst (List.replicate j.toNat a).flatten) else none
 | _,_=>none
theorem zqh:OpD X cl (binaryOp .Mult) zi8:=by
 intro pins s σ H x y v u Q I rx ry h;obtain ⟨w,d,e,r,rfl,hx,hy,hg,q⟩:=h;unfold zi8 at hg;split at hg
 ·rename_i i j;split at hg
  ·rename_i hz;cases hg;obtain rfl:=hx.intI;obtain rfl:=hy.intI;refine zp5 pins s σ w.H _ _ v u Q I rx ry ⟨i,j,rfl,rfl,?_,q _ w (Grow.refl _) (.int _)⟩;rw [ycZ] at hz;exact hz.imp (fun z=>yal z) fun z=>yal z
  ·cases hg
 ·rename_i a j;split at hg
  ·rename_i hz;cases hg;have hz':=yal hz;obtain ⟨p,xs,rfl,ep,kp,rs⟩:=hx.tupI;obtain rfl:=hy.intI;have hl:=rs.length;obtain ⟨k,rfl⟩:∃k:Nat,j=(k:Int):=⟨j.toNat,by omega⟩;have hne:xs≠[]:=fun z=>hz'.2.2.1 (by cases a with | nil=>rfl | cons _ _=>rw [z] at hl;cases hl)
   by_cases hk:k=1
   ·subst hk;cases rx;obtain ⟨t,rfl⟩:=ry;obtain ⟨its,rv,⟨o,ho,hc,n,hd⟩,_⟩:=I.tuple (SqT.of (K:=X.K) ep);refine PySem.zk6 ho hc hd ⟨.ref p,w.H,I,rfl,q _ w (Grow.refl _) (.tup ep kp ?_)⟩;simpa using rs
   ·refine znJ pins s σ w.H _ _ v u Q I rx ry ⟨p,k,xs,rfl,rfl,SqT.of ep,hne,by omega,by omega,by omega,fun l hl=>q _ (w.add l _) (zah hl _) (Shd.newT hl (rs.flat _))⟩
  ·cases hg
 ·rename_i a j;split at hg
  ·rename_i hz;cases hg;have hz':=yal hz;obtain ⟨p,xs,rfl,ep,rs⟩:=hx.lstI;obtain rfl:=hy.intI;have hl:=rs.length;refine zmf pins s σ w.H _ _ v u Q I rx ry ⟨p,j,xs,rfl,rfl,ep,by omega,by omega,?_,fun l hl=>q _ (w.add l _) (zah hl _) (Shd.newL hl (rs.flat _))⟩;refine yas (Nat.mul_le_mul (show xs.length<=1000 by omega) (show j.toNat<=1000 by omega)) (by decide)
  ·cases hg
 ·cases hg
noncomputable def zfh:D->D->Option D | .int i,.int j=>if 0<j then some (.int (i % j)) else none | _,_=>none
noncomputable def zq5:D->D->Option D | .int i,.int j=>if 0<j/\j<1073741824 then some (.int (i / j)) else none | _,_=>none
noncomputable def zsI:D->D->Option D | .int i,.int j=>if 0<=j/\j<=100/\i.natAbs<1000 then some (.int (i ^ j.toNat)) else none | _,_=>none
def zqi:OpD X cl (binaryOp .Mod) zfh:=by
 intro pins s σ H x y v u Q I rx ry h;obtain ⟨w,d,e,r,rfl,hx,hy,hg,q⟩:=h;unfold zfh at hg;split at hg
 ·rename_i i j;split at hg
  ·rename_i hz;cases hg;obtain rfl:=hx.intI;obtain rfl:=hy.intI;exact zp6 pins s σ w.H _ _ v u Q I rx ry ⟨i,j,rfl,rfl,hz,q _ w (Grow.refl _) (.int _)⟩
  ·cases hg
 ·cases hg
def zql:OpD X cl (binaryOp .FloorDiv) zq5:=by
 intro pins s σ H x y v u Q I rx ry h;obtain ⟨w,d,e,r,rfl,hx,hy,hg,q⟩:=h;unfold zq5 at hg;split at hg
 ·rename_i i j;split at hg
  ·rename_i hz;cases hg;obtain rfl:=hx.intI;obtain rfl:=hy.intI;exact znL pins s σ w.H _ _ v u Q I rx ry ⟨i,j,rfl,rfl,hz,q _ w (Grow.refl _) (.int _)⟩
  ·cases hg
 ·cases hg
def zqe:OpD X cl (binaryOp .Pow) zsI:=by
 intro pins s σ H x y v u Q I rx ry h;obtain ⟨w,d,e,r,rfl,hx,hy,hg,q⟩:=h;unfold zsI at hg;split at hg
 ·rename_i i j;split at hg
  ·rename_i hz;cases hg;obtain rfl:=hx.intI;obtain rfl:=hy.intI;exact zp4 pins s σ w.H _ _ v u Q I rx ry ⟨i,j,rfl,rfl,⟨hz.1,by omega,Nat.lt_trans hz.2.2 (by decide)⟩,q _ w (Grow.refl _) (.int _)⟩
  ·cases hg
 ·cases hg
noncomputable def zgZ:D->Option D | .int i=>some (.int (-i)) | _=>none
def zoT:UnD X cl (unaryOp .USub) zgZ:=by
 intro pins s σ H x v Q I rx h;obtain ⟨w,d,r,rfl,hx,hg,q⟩:=h;unfold zgZ at hg;split at hg
 ·cases hg;rename_i i;obtain rfl:=hx.intI;exact zoS pins s σ w.H _ v Q I rx ⟨i,rfl,q _ w (Grow.refl _) (.int _)⟩
 ·cases hg
noncomputable def zoN(p:Int->Int->Bool):D->D->Option D | .int i,.int j=>some (.bl (p i j)) | _,_=>none
def zew(ho:OpR X (compareOp op) (rI0 fun i j=>.bl (p i j))):OpD X cl (compareOp op) (zoN p):=by
 intro pins s σ H x y v u Q I rx ry h;obtain ⟨w,d,e,r,rfl,hx,hy,hg,q⟩:=h;unfold zoN at hg;split at hg
 ·cases hg;rename_i i j;obtain rfl:=hx.intI;obtain rfl:=hy.intI;exact ho pins s σ w.H _ _ v u Q I rx ry ⟨i,j,rfl,rfl,q _ w (Grow.refl _) (.bl _)⟩
 ·cases hg
noncomputable def zcj:D->Bool | .non=>true | _=>false
def zqK(d e:D):Option D:=if zcj e then some (.bl (zcj d)) else none
def zk2(d e:D):Option D:=if zcj e then some (.bl (!zcj d)) else none
def TopV.non_iff(h:TopV cl w v d):decide (v=.non)=zcj d:=by
 cases h with
 | sh h=>cases h<;>simp [zcj]
 | ow e t=>cases t<;>simp [zcj]
def zfo(h:zcj d=true):d=.non:=by cases d<;>simp [zcj] at h;rfl
def zqj:OpD X cl (compareOp .Is) zqK:=by
 intro pins s σ H x y v u Q I rx ry h;obtain ⟨w,d,e,r,rfl,hx,hy,hg,q⟩:=h;unfold zqK at hg;split at hg
 ·rename_i hz;cases hg;rw [zfo hz] at hy;obtain rfl:=hy.nonI;refine zp7 pins s σ w.H _ _ v u Q I rx ry ⟨rfl,?_⟩;rw [hx.non_iff];exact q _ w (Grow.refl _) (.bl _)
 ·cases hg
def znQ:OpD X cl (compareOp .IsNot) zk2:=by
 intro pins s σ H x y v u Q I rx ry h;obtain ⟨w,d,e,r,rfl,hx,hy,hg,q⟩:=h;unfold zk2 at hg;split at hg
 ·rename_i hz;cases hg;rw [zfo hz] at hy;obtain rfl:=hy.nonI;refine znK pins s σ w.H _ _ v u Q I rx ry ⟨rfl,?_⟩;rw [hx.non_iff];exact q _ w (Grow.refl _) (.bl _)
 ·cases hg
noncomputable def zk3:D->D->Option D | .bl a,.bl b=>some (.bl (!decide (a=b))) | _,_=>none
def znR:OpD X cl (compareOp .IsNot) zk3:=by
 intro pins s σ H x y v u Q I rx ry h;obtain ⟨w,d,e,r,rfl,hx,hy,hg,q⟩:=h;unfold zk3 at hg;split at hg
 ·cases hg;obtain rfl:=hx.blI;obtain rfl:=hy.blI;exact zgd pins s σ w.H _ _ v u Q I rx ry ⟨_,_,rfl,rfl,q _ w (Grow.refl _) (.bl _)⟩
 ·cases hg
def ixD:D->D->Option D
 | .lst l,.int i=>atI l i
 | .tup l,.int i=>atI l i
 | .scr l,.int i=>(atI l i).map D.int
 | _,_=>none
def zgL(r:Shds cl w xs ds)(h:atI ds i=some d):∃v,atI xs i=some v/\Shd cl w v d:=by
 unfold atI at h ⊢;rw [r.length]
 cases e:ixN ds.length i with
 | none=>rw [e] at h;cases h
 | some j =>
  rw [e] at h;exact r.at h
def zqP(hK:X.K=cl.K):IxD X cl ixD:=by
 intro value slice pins s σ H x y v u Q I rx ry h hsub;obtain ⟨w,d,e,r,rfl,hx,hy,hg,q⟩:=h;unfold ixD at hg;split at hg
 ·rename_i l i;obtain ⟨p,xs,rfl,ep,rs⟩:=hx.lstI;obtain rfl:=hy.intI;obtain ⟨z,e1,e2⟩:=zgL rs hg;exact zjq value slice pins s σ w.H _ _ v u Q I rx ry ⟨p,xs,i,z,rfl,rfl,SqL.of ep,e1,q _ w (Grow.refl _) e2⟩ hsub
 ·rename_i l i;obtain ⟨p,xs,rfl,ep,_,rs⟩:=hx.tupI;obtain rfl:=hy.intI;obtain ⟨z,e1,e2⟩:=zgL rs hg;exact zqF value slice pins s σ w.H _ _ v u Q I rx ry ⟨p,xs,i,z,rfl,rfl,SqT.of ep,e1,q _ w (Grow.refl _) e2⟩ hsub
 ·rename_i l i;obtain ⟨p,rfl,ep⟩:=hx.scrI hK;obtain rfl:=hy.intI
  cases hl:atI l i with
  | none=>rw [hl] at hg;cases hg
  | some k =>
   rw [hl] at hg;cases hg
   have e1:atI (l.map V.int) i=some (.int k):=by
    unfold atI at hl ⊢;rw [yao]
    cases e:ixN l.length i with
    | none=>rw [e] at hl;cases hl
    | some j =>
     rw [e] at hl;have hl':l[j]?=some k:=hl;show (l.map V.int)[j]?=_;rw [yaq,hl'];rfl
   exact zjq value slice pins s σ w.H _ _ v u Q I rx ry ⟨p,_,i,_,rfl,rfl,ep,e1,q _ w (Grow.refl _) (.int _)⟩ hsub
 ·cases hg
def zfW:List D->Option D
 | [.lst l]=>some (.int l.length)
 | [.tup l]=>some (.int l.length)
 | [.scr l]=>some (.int l.length)
 | [.str x]=>if small x.length then some (.int x.length) else none
 | _=>none
def zrd(hK:X.K=cl.K):zdN X cl (.builtin "len") zfW:=by
 intro pins s σ H xs us Q I r h;obtain ⟨w,ds,d,rfl,hx,hg,q⟩:=h;unfold zfW at hg;split at hg
 ·rename_i l;cases hg
  cases hx with
  | cons h1 h2 =>
   cases h2;obtain ⟨p,ys,rfl,ep,rs⟩:=h1.lstI;refine zbU pins s σ w.H _ us Q I r ⟨p,ys,rfl,.inl (SqL.of ep),?_⟩;rw [rs.length];exact q _ w (Grow.refl _) (.int _)
 ·rename_i l;cases hg
  cases hx with
  | cons h1 h2 =>
   cases h2;obtain ⟨p,ys,rfl,ep,_,rs⟩:=h1.tupI;refine zbU pins s σ w.H _ us Q I r ⟨p,ys,rfl,.inr (SqT.of ep),?_⟩;rw [rs.length];exact q _ w (Grow.refl _) (.int _)
 ·rename_i l;cases hg
  cases hx with
  | cons h1 h2 =>
   cases h2;obtain ⟨p,rfl,ep⟩:=h1.scrI hK;refine zbU pins s σ w.H _ us Q I r ⟨p,l.map V.int,rfl,.inl ep,?_⟩;rw [yao];exact q _ w (Grow.refl _) (.int _)
 ·rename_i x;split at hg
  ·rename_i hz;cases hg
   cases hx with
   | cons h1 h2 =>
    cases h2;obtain rfl:=h1.strI;exact zfG pins s σ w.H _ us Q I r ⟨x,rfl,zav hz,q _ w (Grow.refl _) (.int _)⟩
  ·cases hg
 ·cases hg
noncomputable def zb6:List D->Option D
 | [.lst l]=>some (.tup l)
 | [.tup l]=>some (.tup l)
 | _=>none
def zlC:zdN X cl (.type "tuple") zb6:=by
 intro pins s σ H xs us Q I r h;obtain ⟨w,ds,d,rfl,hx,hg,q⟩:=h;unfold zb6 at hg;split at hg
 ·rename_i l;cases hg
  cases hx with
  | cons h1 h2 =>
   cases h2;obtain ⟨p,ys,rfl,ep,rs⟩:=h1.lstI;exact zcD pins s σ w.H _ us Q I r ⟨p,ys,rfl,.inl ⟨SqL.of ep,fun l hl=>q _ (w.add l _) (zah hl _) (Shd.newT hl rs)⟩⟩
 ·rename_i l;cases hg
  cases hx with
  | cons h1 h2 =>
   cases h2;obtain ⟨p,ys,rfl,ep,kp,rs⟩:=h1.tupI;exact zcD pins s σ w.H _ us Q I r ⟨p,ys,rfl,.inr ⟨SqT.of ep,q _ w (Grow.refl _) (.tup ep kp rs)⟩⟩
 ·cases hg
noncomputable def zjk:List D->Option D
 | [.lst l]=>some (.lst l)
 | [.tup l]=>some (.lst l)
 | _=>none
def zop:zrw X cl (.type "list") zjk:=by
 intro pins s σ H xs us Q I r h;obtain ⟨w,ds,d,rfl,hx,hg,q⟩:=h;unfold zjk at hg;split at hg
 ·rename_i l;cases hg
  cases hx with
  | cons h1 h2 =>
   cases h2;obtain ⟨p,ys,rfl,ep,rs⟩:=h1.lstI;exact zc8 pins s σ w.H _ us Q I r ⟨p,ys,rfl,.inl (SqL.of ep),fun l hl=>q _ _ w (Grow.refl _) hl (.lst rs)⟩
 ·rename_i l;cases hg
  cases hx with
  | cons h1 h2 =>
   cases h2;obtain ⟨p,ys,rfl,ep,_,rs⟩:=h1.tupI;exact zc8 pins s σ w.H _ us Q I r ⟨p,ys,rfl,.inr (SqT.of ep),fun l hl=>q _ _ w (Grow.refl _) hl (.lst rs)⟩
 ·cases hg
noncomputable def zh3:List D->Option (List Bool)
 | []=>some []
 | .bl b::l=>(zh3 l).map (b::·)
 | _=>none
def zlO:∀{xs:List V},Shds cl w xs ds->zh3 ds=some bs->xs=bs.map V.bl:=by
 induction ds generalizing bs with
 | nil=>intro xs r h;cases r;cases h;rfl
 | cons d ds ih =>
  intro xs r e
  cases r with
  | cons h t =>
   cases d with
   | bl b =>
    cases h;unfold zh3 at e
    cases hr:zh3 ds with
    | none=>rw [hr] at e;cases e
    | some cs=>rw [hr] at e;cases e;rw [ih t hr];rfl
   | _=>cases e
def zr2:List D->Option D
 | [.lst l]=>(zh3 l).map fun bs=>.bl (bs.all id)
 | _=>none
def zrf(hc:X.calm=true):zdN X cl (.builtin "all") zr2:=by
 intro pins s σ H xs us Q I r h;obtain ⟨w,ds,d,rfl,hx,hg,q⟩:=h;unfold zr2 at hg;split at hg
 ·rename_i l
  cases hb:zh3 l with
  | none=>rw [hb] at hg;cases hg
  | some bs =>
   rw [hb] at hg;cases hg
   cases hx with
   | cons h1 h2 =>
    cases h2;obtain ⟨p,ys,rfl,ep,rs⟩:=h1.lstI;obtain rfl:=zlO rs hb;exact zgs hc pins s σ w.H _ us Q I r ⟨p,bs,rfl,SqL.of ep,q _ w (Grow.refl _) (.bl _)⟩
 ·cases hg
noncomputable def zbE:List D->Option (List Int)
 | []=>some []
 | .int b::l=>(zbE l).map (b::·)
 | _=>none
def zcw:∀{xs:List V},Shds cl w xs ds->zbE ds=some bs->xs=bs.map V.int:=by
 induction ds generalizing bs with
 | nil=>intro xs r h;cases r;cases h;rfl
 | cons d ds ih =>
  intro xs r e
  cases r with
  | cons h t =>
   cases d with
   | int b =>
    cases h;unfold zbE at e
    cases hr:zbE ds with
    | none=>rw [hr] at e;cases e
    | some cs=>rw [hr] at e;cases e;rw [ih t hr];rfl
   | _=>cases e
def zsp:List D->Option D
 | [.lst l]=>(zbE l).bind fun ns=>if decide (ns.length<=1000)&&ns.all (fun n=>decide (0<=n/\n<=1000000)) then some (.int ns.sum) else none
 | _=>none
def zra(hc:X.calm=true):zdN X cl (.builtin "sum") zsp:=by
 intro pins s σ H xs us Q I r h;obtain ⟨w,ds,d,rfl,hx,hg,q⟩:=h;unfold zsp at hg;split at hg
 ·rename_i l
  cases hb:zbE l with
  | none=>rw [hb] at hg;cases hg
  | some ns =>
   rw [hb] at hg;dsimp only [Option.bind] at hg;split at hg
   ·rename_i hz;cases hg;rw [yab,ybv] at hz
    cases hx with
    | cons h1 h2 =>
     cases h2;obtain ⟨p,ys,rfl,ep,rs⟩:=h1.lstI;obtain rfl:=zcw rs hb;exact zlF hc pins s σ w.H _ us Q I r ⟨p,ns,rfl,SqL.of ep,yal hz.1,fun n hn=>yal (hz.2 n hn),q _ w (Grow.refl _) (.int _)⟩
   ·cases hg
 ·cases hg
end
end S2
namespace L2
open PySem PySem.Spec PyProof.Rows
theorem zeG{α β:Type}{f g:α->Option β}:∀{l:List α},(∀x∈l,f x=g x)->l.filterMap f=l.filterMap g
 | [],_=>rfl
 | x::l,h=>by
  have:=zeG fun y hy=>h y (.tail x hy)
  rw [ybG,ybG,h x (.head _),this]
theorem zg7{α:Type}(l:List α):∀n,n<=l.length->(List.range n).filterMap (fun k=>l[k]?)=l.take n
 | 0,_=>rfl
 | n+1,h=>by
  rw [List.range_succ,List.filterMap_append,zg7 l n (by omega),List.take_add_one]
  cases h2:l[n]? with
  | none=>rw [List.getElem?_eq_none_iff] at h2;omega
  | some x=>simp [h2]
def zkI(its:List Value):slicePick its.toArray none none (some (-1))=its.reverse.toArray:=by
 unfold slicePick
 have e:sliceBounds none none (some (-1)) its.toArray.size=((its.length:Int)-1,-1,-1):=by simp [sliceBounds]
 rw [e];congr 1;unfold sliceRange;dsimp only
 have hc:(if (-1:Int) > 0 then (if (its.length:Int)-1 < -1 then (-1-((its.length:Int)-1)+-1-1) / -1 else 0) else (if (its.length:Int)-1 > -1 then ((its.length:Int)-1 - -1 - -1-1) / (- -1) else 0)).toNat=its.length:=by
  rw [if_neg (by decide)];split
  ·have:((its.length:Int)-1 - -1 - -1-1) / (- -1)=(its.length:Int):=by
    rw [show (- -1:Int)=1 by decide,Int.ediv_one];omega
   rw [this];simp
  ·have:its.length=0:=by omega
   rw [this];rfl
 rw [hc,List.filterMap_map]
 have h1:((List.range its.length).filterMap ((fun k=>its.toArray[k]?)∘fun k:Nat=>((its.length:Int)-1+-1*(k:Int)).toNat))=(List.range its.length).filterMap fun k=>its[its.length-1-k]?:=by
  apply zeG;intro k _;show its.toArray[((its.length:Int)-1+-1*(k:Int)).toNat]?=_
  have:((its.length:Int)-1+-1*(k:Int)).toNat=its.length-1-k:=by omega
  rw [this];simp
 rw [h1]
 have h2:(List.range its.length).filterMap (fun k=>its[its.length-1-k]?)=its.reverse:=by
  have:(List.range its.length).filterMap (fun k=>its[its.length-1-k]?)=(List.range its.length).filterMap fun k=>its.reverse[k]?:=by
   apply zeG;intro k hk;rw [ycL (ycf.mp hk)]
  rw [this]
  have e2:its.length=its.reverse.length:=by simp
  rw [e2];rw [zg7 its.reverse _ (yah _),List.take_length]
 rw [h2]
section
variable{X:Cx}{e st:Expr}{te ts:TE}{pos p2:Pos}
def zkM(he:PE X e te)(hst:PE X st ts):PE X (.Subscript e (.Slice none none (some st) p2) pos) (fun σ H Q=>te σ H fun x H1=>ts σ H1 fun y H2=>y=.int (-1)/\∃a xs,x=.ref a/\SqL X.K H2 a xs/\∀p,H2 p=none->Q (.ref p) (upd H2 p (.lst xs.reverse))):=by
 intro pins s σ H Q I h;refine Subscript_ (thn (he pins s σ H _ I h) fun v s1 ⟨x,H1,I1,r1,q1⟩=>?_);refine wpAny_Slice ?_;rw [evalPart_none];refine yae (yae ?_);rw [evalPart_some];refine thn (hst pins s1 σ H1 _ I1 q1) fun u s3 ⟨y,H3,I3,r3,q3⟩=>?_
 obtain ⟨rfl,a,xs,rfl,hx,q⟩:=q3;obtain ⟨t,rfl⟩:=r3;cases r1;have I4:Inv X pins σ H3 { s3 with heap:=s3.heap.push { cls:=.type "slice",data:=.fields #[.none,.none,.int (-1) t] } }:=I3.kept (t':=s3.toks) fun b ob q=>yad _ q
 obtain ⟨its,r,ht,hz⟩:=I4.list hx;have hlen:=r.length;show wpAny (model X.prog X.w) X.A (subscriptTail e (.Slice none none (some st) p2) (.ref a) (.ref s3.heap.objs.size)) (EP X pins σ Q) X.xe { s3 with heap:=s3.heap.push { cls:=.type "slice",data:=.fields #[.none,.none,.int (-1) t] } };refine tail_any (ops:=[.ref a,.ref s3.heap.objs.size]) ht.isList.typeIs slot_list_getitem.lookup ?_ (by with_unfolding_all rfl);refine wpAny_getItem_list_slice ht.isList (Heap.IsSliceOf.new ..) .none .none (.int (-1) t) (by decide) ?_ (by rw [yaf]<;>omega);rw [zkI];refine ⟨.ref _,_,I4.laid (t':=s3.toks) (o:=.lst xs.reverse) (fun b ob q=>yad _ q) (yah _) ?_,rfl,q _ (I4.hok.fresh (yah _))⟩;exact ⟨by rw [ybT];exact hz,_,0,r.reverse,yag _ rfl⟩
end
end L2
namespace S2
open PySem PySem.Spec PyProof.Rows L2
def zbH(g g':D->D->Option D)(f h k:Fe):Fe:=fun ρ S=>(f ρ S).bind fun a S1=>(h ρ S1).bind fun b S2=>match (g a b).bind isB with
 | some true=>(k ρ S2).bind fun c S3=>Out.of (g' b c) S3
 | some false=>.ok (.bl false) S2
 | none=>.bad
section
variable{X:Cx}{cl:Cf}{E:St->XK}{a b c e:Expr}{f h k:Fe}{pos:Pos}
def zgF(hr:∀x y H Q,(∃w d e r,w.H=H/\TopV cl w x d/\TopV cl w y e/\g d e=some r/\∀v w',Grow w w'->Shd cl w' v r->Q v w'.H)->r x y H Q)
  (hr':∀x y H Q,(∃w d e r,w.H=H/\TopV cl w x d/\TopV cl w y e/\g' d e=some r/\∀v w',Grow w w'->Shd cl w' v r->Q v w'.H)->r' x y H Q) (q:tE cl E (zbH g g' f h k) σ H Q):zim r r' (tH cl E f) (tH cl E h) (tH cl E k) σ H Q:=by
 obtain ⟨B,w,ρ,S,rfl,R,q⟩:=q;refine ⟨B,w,ρ,S,rfl,R,?_⟩;unfold zbH at q
 cases hf:f ρ S with
 | bad=>rwa [hf] at q
 | exc c S1=>rwa [hf] at q
 | ok d S1 =>
  rw [hf] at q;intro v w1 R1 F1 h1;refine ⟨B,w1,ρ,S1,rfl,R1,?_⟩;dsimp only [Out.bind] at q
  cases hh:h ρ S1 with
  | bad=>rwa [hh] at q
  | exc c S2=>rw [hh] at q;exact fun w2 R2 F2=>q w2 R2 (F1.trans F2)
  | ok e S2 =>
   rw [hh] at q;intro y w2 R2 F2 h2;dsimp only at q
   cases hg:g d e with
   | none=>rw [hg] at q;exact q.elim
   | some z =>
    rw [hg] at q;dsimp only [Option.bind] at q
    cases hb:isB z with
    | none=>rw [hb] at q;exact q.elim
    | some bb =>
     rw [hb] at q;rw [zb0 hb] at hg;refine hr _ _ _ _ ⟨w2,d,e,_,rfl,(h1.up F2).top R2,h2.top R2,hg,fun v' w3 gr sh=>⟨bb,ze3 sh,?_⟩⟩;have R3:=R2.grow gr
     cases bb with
     | false=>exact zli (q _ w3 R3 (F1.trans (F2.trans gr.fut)) (.bl _))
     | true =>
      refine zlh ⟨B,w3,ρ,S2,rfl,R3,?_⟩;dsimp only at q
      cases hk:k ρ S2 with
      | bad=>rwa [hk] at q
      | exc c S3=>rw [hk] at q;exact fun w4 R4 F4=>q w4 R4 (F1.trans (F2.trans (gr.fut.trans F4)))
      | ok c S3 =>
       rw [hk] at q;intro z' w4 R4 F4 h4;dsimp only at q
       cases hg':g' e c with
       | none=>rw [hg'] at q;exact q.elim
       | some r2 =>
        rw [hg'] at q;exact hr' _ _ _ _ ⟨w4,e,c,r2,rfl,(h2.up (gr.fut.trans F4)).top R4,h4.top R4,hg',fun v' w5 gr5 sh5=>q v' w5 (R4.grow gr5) (F1.trans (F2.trans (gr.fut.trans (F4.trans gr5.fut)))) sh5⟩
def zkw(ho:OpD X cl (compareOp op) g)(ho':OpD X cl (compareOp op') g')(ha:PE X a (tH cl E f))(hb:PE X b (tH cl E h))(hc:PE X c (tH cl E k))(hm:lastMarks [op,op'] [b,c]=false):PE X (.Compare a [op,op'] [b,c] pos) (tE cl E (zbH g g' f h k)) :=
 PE.imp (zkU ho ho' ha hb hc hm) fun _ _ _ q=>zgF (fun _ _ _ _ z=>z) (fun _ _ _ _ z=>z) q
def zko(ho:OpD X cl (compareOp op) g)(ho':OpD X cl (compareOp op') g')(ha:PE X a (tH cl E f))(hb:PE X b (tH cl E h))(hc:PE X c (tH cl E k))(hm:lastMarks [op,op'] [b,c]=false):PT X (.Compare a [op,op'] [b,c] pos) (tTr cl E (zbH g g' f h k)) :=
 PT.imp (zkD ho ho' ha hb hc hm) fun _ _ _ q=>zgF (fun _ _ _ _ z=>z) (fun _ _ _ _ z=>z) (zgE q)
def zmA{α:Type}(l:List α)(lo hi:Option Int):List α:=(l.drop (HT.sIx l.length 0 lo)).take (HT.sIx l.length l.length hi-HT.sIx l.length 0 lo)
def slD(d:D)(lo hi:Option Int):Option D:=match d with
 | .lst l=>some (.lst (zmA l lo hi))
 | .tup l=>some (.tup (zmA l lo hi))
 | _=>none
def zbK(o:Option Fe)(ρ:Env)(S:Sto):Out (Option Int):=match o with
 | none=>.ok none S
 | some f=>(f ρ S).bind fun d S1=>match d with | .int i=>.ok (some i) S1 | _=>.bad
def eSl(f:Fe)(lo hi:Option Fe):Fe:=fun ρ S=>(f ρ S).bind fun d S1=>(zbK lo ρ S1).bind fun l S2=>(zbK hi ρ S2).bind fun u S3=>Out.of (slD d l u) S3
def zfC(r:Shds cl w xs ds)(lo hi:Option Int):Shds cl w (zmz xs lo hi) (zmA ds lo hi):=by
 unfold zmz zmA;rw [r.length];exact (r.drop _).take _
noncomputable def SlD(X:Cx)(cl:Cf):Prop:=SlR X fun x lo hi H Q=>∃w d r,w.H=H/\TopV cl w x d/\slD d lo hi=some r/\∀v w',Grow w w'->Shd cl w' v r->Q v w'.H
def zsy:SlD X cl:=by
 intro pins s σ H x v vl vu lo hi sl Q I rx hs pl pu h;obtain ⟨w,d,r,rfl,hx,hg,q⟩:=h;unfold slD at hg;split at hg
 ·rename_i l;cases hg;obtain ⟨p,xs,rfl,ep,rs⟩:=hx.lstI;exact zna pins s σ w.H _ v vl vu lo hi sl Q I rx hs pl pu ⟨p,xs,rfl,SqL.of ep,fun p' hp=>q _ (w.add p' _) (zah hp _) (Shd.newL hp (zfC rs lo hi))⟩
 ·rename_i l;cases hg;obtain ⟨p,xs,rfl,ep,kp,rs⟩:=hx.tupI
  by_cases hw:HT.sIx xs.length 0 lo=0/\HT.sIx xs.length xs.length hi=xs.length
  ·refine zhC pins s σ w.H _ v vl vu lo hi sl Q I rx hs pl pu ⟨p,xs,rfl,SqT.of ep,hw.1,hw.2,q _ w (Grow.refl _) (.tup ep kp ?_)⟩
   have:zmA l lo hi=l:=by
    unfold zmA;rw [<-rs.length,hw.1,hw.2,List.drop_zero,Nat.sub_zero,List.take_of_length_le (by rw [rs.length];exact yah _)]
   rw [this];exact rs
  ·exact zpj pins s σ w.H _ v vl vu lo hi sl Q I rx hs pl pu ⟨p,xs,rfl,SqT.of ep,hw,fun p' hp=>q _ (w.add p' _) (zah hp _) (Shd.newT hp (zfC rs lo hi))⟩
 ·cases hg
noncomputable def zrB(cl:Cf)(E:St->XK)(o:Option Fe):TO:=match o with | none=>zik | some f=>zo1 (tH cl E f)
def zpu{lo hi:Option Expr}{fl fh:Option Fe}{p2:Pos}(he:PE X e (tH cl E f))(hl:PO X lo (zrB cl E fl))(hu:PO X hi (zrB cl E fh)):PE X (.Subscript e (.Slice lo hi none p2) pos) (tE cl E (eSl f fl fh)):=by
 refine PE.imp (zkN (zsy (cl:=cl)) he hl hu) ?_;rintro σ H Q ⟨B,w,ρ,S,rfl,R,q⟩;refine ⟨B,w,ρ,S,rfl,R,?_⟩;unfold eSl at q
 cases hf:f ρ S with
 | bad=>rwa [hf] at q
 | exc c S1=>rwa [hf] at q
 | ok d S1 =>
  rw [hf] at q;intro v w1 R1 F1 h1;dsimp only [Out.bind] at q
  have last:∀(l u:Option Int) (w3:Wd) (S3:Sto),Rel cl B σ w3 ρ S3->Fut w1 w3->(match Out.of (slD d l u) S3 with
    | .ok d S'=>∀v w',Rel cl B σ w' ρ S'->Fut w w'->Shd cl w' v d->Q v w'.H
    | .exc c S'=>∀w',Rel cl B σ w' ρ S'->Fut w w'->E σ (.ref (cl c)) none w'.H
    | .bad=>False)->∃w d r,w.H=w3.H/\TopV cl w v d/\slD d l u=some r/\∀v w',Grow w w'->Shd cl w' v r->Q v w'.H:=by
   intro l u w3 S3 R3 F3 q3
   cases hg:slD d l u with
   | none=>rw [hg] at q3;exact q3.elim
   | some r =>
    rw [hg] at q3;exact ⟨w3,d,r,rfl,(h1.up F3).top R3,hg,fun v' w' gr sh=>q3 v' w' (R3.grow gr) (F1.trans (F3.trans gr.fut)) sh⟩
  have second:∀(l:Option Int) (w2:Wd) (S2:Sto),Rel cl B σ w2 ρ S2->Fut w1 w2->(match (zbK fh ρ S2).bind fun u S3=>Out.of (slD d l u) S3 with
    | .ok d S'=>∀v w',Rel cl B σ w' ρ S'->Fut w w'->Shd cl w' v d->Q v w'.H
    | .exc c S'=>∀w',Rel cl B σ w' ρ S'->Fut w w'->E σ (.ref (cl c)) none w'.H
    | .bad=>False)->zrB cl E fh σ w2.H fun u H3=>∃w d r,w.H=H3/\TopV cl w v d/\slD d l u=some r/\∀v w',Grow w w'->Shd cl w' v r->Q v w'.H:=by
   intro l w2 S2 R2 F2 q2
   cases fh with
   | none=>exact last l none w2 S2 R2 F2 q2
   | some fh =>
    refine ⟨B,w2,ρ,S2,rfl,R2,?_⟩;unfold zbK at q2;dsimp only at q2
    cases hh:fh ρ S2 with
    | bad=>rwa [hh] at q2
    | exc c S3=>rw [hh] at q2;exact fun w3 R3 F3=>q2 w3 R3 (F1.trans (F2.trans F3))
    | ok dh S3 =>
     rw [hh] at q2;intro y w3 R3 F3 h3;dsimp only [Out.bind] at q2
     cases dh with
     | int i =>
      refine ⟨i,(h3.top R3).intI,?_⟩;exact last l (some i) w3 S3 R3 (F2.trans F3) q2
     | _=>exact q2.elim
  cases fl with
  | none=>exact second none w1 S1 R1 (Fut.refl _) q
  | some fl =>
   refine ⟨B,w1,ρ,S1,rfl,R1,?_⟩;unfold zbK at q;dsimp only at q
   cases hh:fl ρ S1 with
   | bad=>rwa [hh] at q
   | exc c S3=>rw [hh] at q;exact fun w3 R3 F3=>q w3 R3 (F1.trans F3)
   | ok dl S2 =>
    rw [hh] at q;intro y w2 R2 F2 h2;dsimp only [Out.bind] at q
    cases dl with
    | int i =>
     refine ⟨i,(h2.top R2).intI,?_⟩;exact second (some i) w2 S2 R2 F2 q
    | _=>exact q.elim
noncomputable def zfq(T:String)(d:D):Option D :=
 if T = "int" then (match d with | .int _=>some (.bl true) | .bl _=>some (.bl true) | .non=>some (.bl false) | .str _=>some (.bl false) | .tup _=>some (.bl false) | .lst _=>some (.bl false) | _=>none)
 else if T = "bool" then (match d with | .int _=>some (.bl false) | .bl _=>some (.bl true) | .non=>some (.bl false) | .str _=>some (.bl false) | .tup _=>some (.bl false) | .lst _=>some (.bl false) | _=>none)
 else if T = "tuple" then (match d with | .int _=>some (.bl false) | .bl _=>some (.bl false) | .non=>some (.bl false) | .str _=>some (.bl false) | .tup _=>some (.bl true) | .lst _=>some (.bl false) | _=>none)
 else if T = "str" then (match d with | .int _=>some (.bl false) | .bl _=>some (.bl false) | .non=>some (.bl false) | .str _=>some (.bl true) | .tup _=>some (.bl false) | .lst _=>some (.bl false) | _=>none)
 else if T = "list" then (match d with | .int _=>some (.bl false) | .bl _=>some (.bl false) | .non=>some (.bl false) | .str _=>some (.bl false) | .tup _=>some (.bl false) | .lst _=>some (.bl true) | _=>none)
 else none
def zoe{K:PySem.W.Frag}{w:Wd}(h:TopV cl w v d)(hg:zfq T d=some r):∃t b,TyOf K w.H v t/\PySem.W.kitOne K t (.type T)=some b/\r=.bl b:=by
 unfold zfq at hg;split at hg
 ·rename_i hT;subst hT
  split at hg<;>cases hg
  ·obtain rfl:=h.intI;exact ⟨_,_,.int _,by with_unfolding_all rfl,rfl⟩
  ·obtain rfl:=h.blI;exact ⟨_,_,.bl _,by with_unfolding_all rfl,rfl⟩
  ·obtain rfl:=h.nonI;exact ⟨_,_,.non,by with_unfolding_all rfl,rfl⟩
  ·obtain rfl:=h.strI;exact ⟨_,_,.str _,by with_unfolding_all rfl,rfl⟩
  ·obtain ⟨_,_,rfl,e,_⟩:=h.tupI;exact ⟨_,_,.tup e,by with_unfolding_all rfl,rfl⟩
  ·obtain ⟨_,_,rfl,e,_⟩:=h.lstI;exact ⟨_,_,.lst e,by with_unfolding_all rfl,rfl⟩
 split at hg
 ·rename_i hT;subst hT
  split at hg<;>cases hg
  ·obtain rfl:=h.intI;exact ⟨_,_,.int _,by with_unfolding_all rfl,rfl⟩
  ·obtain rfl:=h.blI;exact ⟨_,_,.bl _,by with_unfolding_all rfl,rfl⟩
  ·obtain rfl:=h.nonI;exact ⟨_,_,.non,by with_unfolding_all rfl,rfl⟩
  ·obtain rfl:=h.strI;exact ⟨_,_,.str _,by with_unfolding_all rfl,rfl⟩
  ·obtain ⟨_,_,rfl,e,_⟩:=h.tupI;exact ⟨_,_,.tup e,by with_unfolding_all rfl,rfl⟩
  ·obtain ⟨_,_,rfl,e,_⟩:=h.lstI;exact ⟨_,_,.lst e,by with_unfolding_all rfl,rfl⟩
 split at hg
 ·rename_i hT;subst hT
  split at hg<;>cases hg
  ·obtain rfl:=h.intI;exact ⟨_,_,.int _,by with_unfolding_all rfl,rfl⟩
  ·obtain rfl:=h.blI;exact ⟨_,_,.bl _,by with_unfolding_all rfl,rfl⟩
  ·obtain rfl:=h.nonI;exact ⟨_,_,.non,by with_unfolding_all rfl,rfl⟩
  ·obtain rfl:=h.strI;exact ⟨_,_,.str _,by with_unfolding_all rfl,rfl⟩
  ·obtain ⟨_,_,rfl,e,_⟩:=h.tupI;exact ⟨_,_,.tup e,by with_unfolding_all rfl,rfl⟩
  ·obtain ⟨_,_,rfl,e,_⟩:=h.lstI;exact ⟨_,_,.lst e,by with_unfolding_all rfl,rfl⟩
 split at hg
 ·rename_i hT;subst hT
  split at hg<;>cases hg
  ·obtain rfl:=h.intI;exact ⟨_,_,.int _,by with_unfolding_all rfl,rfl⟩
  ·obtain rfl:=h.blI;exact ⟨_,_,.bl _,by with_unfolding_all rfl,rfl⟩
  ·obtain rfl:=h.nonI;exact ⟨_,_,.non,by with_unfolding_all rfl,rfl⟩
  ·obtain rfl:=h.strI;exact ⟨_,_,.str _,by with_unfolding_all rfl,rfl⟩
  ·obtain ⟨_,_,rfl,e,_⟩:=h.tupI;exact ⟨_,_,.tup e,by with_unfolding_all rfl,rfl⟩
  ·obtain ⟨_,_,rfl,e,_⟩:=h.lstI;exact ⟨_,_,.lst e,by with_unfolding_all rfl,rfl⟩
 split at hg
 ·rename_i hT;subst hT
  split at hg<;>cases hg
  ·obtain rfl:=h.intI;exact ⟨_,_,.int _,by with_unfolding_all rfl,rfl⟩
  ·obtain rfl:=h.blI;exact ⟨_,_,.bl _,by with_unfolding_all rfl,rfl⟩
  ·obtain rfl:=h.nonI;exact ⟨_,_,.non,by with_unfolding_all rfl,rfl⟩
  ·obtain rfl:=h.strI;exact ⟨_,_,.str _,by with_unfolding_all rfl,rfl⟩
  ·obtain ⟨_,_,rfl,e,_⟩:=h.tupI;exact ⟨_,_,.tup e,by with_unfolding_all rfl,rfl⟩
  ·obtain ⟨_,_,rfl,e,_⟩:=h.lstI;exact ⟨_,_,.lst e,by with_unfolding_all rfl,rfl⟩
 ·cases hg
theorem zfJ:bootBuiltins "isinstance" = some (.builtin "isinstance"):=by decide +kernel
def znm(hg:Gl X "isinstance")(hm:X.mg "isinstance" = none)(hgT:Gl X x)(hmT:X.mg x=none)(hvT:bootBuiltins x=some (.type T))(hn:x ≠ "__name__")(hdb:(x == ("__debug__":Str))=false)(hp:zaB e=true)(he:PE X e (tH cl E f)) :
  PE X (.Call (.Name "isinstance" p) [e,.Name x p2] [] pos) (tE cl E (eUn (zfq T) f)):=by
 refine PE.imp (zcq zgr hg hm zfJ (zat he (zat (zgc (v:=.ty T) hgT hmT hvT rfl hn hdb) zaV rfl) (zap hp)) (he:=zap hp) (hpl:=rfl)) ?_;rintro σ H Q ⟨B,w,ρ,S,rfl,R,q⟩;refine ⟨B,w,ρ,S,rfl,R,?_⟩;unfold eUn at q
 cases hf:f ρ S with
 | bad=>rwa [hf] at q
 | exc c S1=>rwa [hf] at q
 | ok d S1 =>
  rw [hf] at q;intro v w1 R1 F1 h1;dsimp only [Out.bind] at q
  cases hg:zfq T d with
  | none=>rw [hg] at q;exact q.elim
  | some r =>
   rw [hg] at q;obtain ⟨t,b,h2,h3,rfl⟩:=zoe (K:=X.K) (h1.top R1) hg;exact ⟨v,t,T,b,rfl,h2,h3,q _ w1 R1 F1 (.bl _)⟩
noncomputable def zkB:D->D->Option D
 | .lst l,.int i=>if i=-1 then some (.lst l.reverse) else none
 | _,_=>none
def zgM{a b:Expr}{h:Fe}{p2:Pos}(ha:PE X a (tH cl E f))(hb:PE X b (tH cl E h)):PE X (.Subscript a (.Slice none none (some b) p2) pos) (tE cl E (zal zkB f h)) :=
 PE.imp (zkM ha hb) (two (r2:=fun x y H Q=>y=.int (-1)/\∃a xs,x=.ref a/\SqL X.K H a xs/\∀p,H p=none->Q (.ref p) (upd H p (.lst xs.reverse))) fun x y H Q z=>by
  obtain ⟨w,d,e,r,rfl,hx,hy,hg,q⟩:=z;unfold zkB at hg;split at hg
  ·rename_i l i;split at hg
   ·rename_i hi;subst hi;cases hg;obtain ⟨p,xs,rfl,ep,rs⟩:=hx.lstI;exact ⟨hy.intI,p,xs,rfl,SqL.of ep,fun p' hp=>q _ (w.add p' _) (zah hp _) (Shd.newL hp rs.rev)⟩
   ·cases hg
  ·cases hg)
def zgo(f:Fe):Fi:=fun ρ S=>(f ρ S).bind fun d S1=>match d with | .scr l=>.ok (l.map D.int) S1 | _=>.bad
def zpm{tg:Expr}(hK:X.K=cl.K)(he:PE X e (tE cl E f)):PI X tg e (tI cl E (zgo f)):=by
 refine PI.imp (ziU he) ?_;rintro σ H Q ⟨B,w,ρ,S,rfl,R,q⟩;refine ⟨B,w,ρ,S,rfl,R,?_⟩;unfold zgo at q
 cases hf:f ρ S with
 | bad=>rwa [hf] at q
 | exc c S1=>rwa [hf] at q
 | ok d S1 =>
  rw [hf] at q;intro v w' R' F' h';dsimp only [Out.bind] at q
  cases d with
  | scr l =>
   obtain ⟨a,rfl,_⟩:=h'.scrI hK
   have hS:∀w1,Fut w' w1->SqL X.K w1.H a (l.map V.int):=fun w1 F1=>by
    obtain ⟨a',e,hq⟩:=(h'.up F1).scrI hK;cases e;exact hq
   refine ⟨a,rfl,⟨_,hS _ (Fut.refl _)⟩,q _ w' R' F' ?_⟩;refine ⟨fun w1 F1 i hi=>⟨_,(l.map V.int)[i]'(by simpa using hi),hS _ F1,yac (by simpa using hi)⟩,fun w1 F1=>⟨_,hS _ F1,by simp⟩,fun w1 F1 i d x H1 hd y=>?_⟩;obtain ⟨rfl,hy⟩:=y;have hx:=hy _ (hS _ F1);rw [yaq] at hx hd
   cases hl:l[i]? with
   | none=>rw [hl] at hx;cases hx
   | some z =>
    rw [hl] at hx hd;cases hx;cases hd;exact ⟨w1,rfl,Grow.refl _,.int _⟩
  | _=>exact q.elim
def za7(f:Fe):Fi:=fun ρ S=>(f ρ S).bind fun d S1=>match d with | .lst l=>.ok l S1 | .tup l=>.ok l S1 | .scr l=>.ok (l.map D.int) S1 | _=>.bad
def zpp(hK:X.K=cl.K)(he:PE X e (tE cl E f)):PI X tg e (tI cl E (za7 f)):=by
 intro pins s σ H R' I q;obtain ⟨B,w,ρ,S,rfl,R,q⟩:=q;unfold za7 at q
 cases hf:f ρ S with
 | bad=>rw [hf] at q;exact q.elim
 | exc c S1 =>
  refine zix he pins s σ w.H R' I ⟨B,w,ρ,S,rfl,R,?_⟩;unfold zhb;rw [hf] at q ⊢;exact q
 | ok d S1 =>
  rw [hf] at q;dsimp only [Out.bind] at q
  cases d with
  | lst l =>
   refine zix he pins s σ w.H R' I ⟨B,w,ρ,S,rfl,R,?_⟩;unfold zhb;rw [hf];exact q
  | tup l =>
   refine zpl he pins s σ w.H R' I ⟨B,w,ρ,S,rfl,R,?_⟩;unfold zgn;rw [hf];exact q
  | scr l =>
   refine zpm hK he pins s σ w.H R' I ⟨B,w,ρ,S,rfl,R,?_⟩;unfold zgo;rw [hf];exact q
  | _=>exact q.elim
end
end S2
namespace L2
open PySem PySem.Spec PyProof.Rows
noncomputable abbrev IsT(h:Heap)(T:Addr)(os:List Value):Prop:=h.get? T=some { cls:=.type "tuple",data:=.seq os.toArray }
noncomputable abbrev Stops(h:Heap)(e:Addr):Prop:=∃o,h.get? e=some o/\o.cls=.type "StopIteration"
structure ZSt(a l m i:Nat)(f:Value)(h:Heap):Prop where
 z:IsZip h (a+4) (a+2) (a+3) f
 ti:IsT h (a+2) [.ref a,.ref (a+1)]
 to:∃x y,IsT h (a+3) [x,y]
 i1:h.IsTupleIter a l i
 i2:h.IsTupleIter (a+1) m i
section
variable{prog:Program}{w:World}{A:Around}{E:Z5}{s:Shared}{a l m k:Nat}{us vs:Array Value}
def zgC{h h':Heap}{t:Addr}(p:h.IsTuple t vs)(q:∀o,h.get? t=some o->h'.get? t=some o):h'.IsTuple t vs:=by
 obtain ⟨o,ho,r⟩:=p;exact ⟨o,q o ho,r⟩
def zmG{β:Type}{f:Value×Nat->β->Sem (ForInStep β)}{b:β}{Q:β->Shared->Prop}{x0 y0:Value}
  (hf:∀(c l n:Nat) (vs:Array Value) (os:List Value) (s:Shared) (Q:ForInStep β->Shared->Prop),l<c->c<a+3->os.length=2->IsZip s.heap (a+4) (a+2) (a+3) .ellipsis->IsT s.heap (a+3) os->s.heap.IsTupleIter c l k->s.heap.IsTuple l vs->k<=vs.size →
   (∀x h' tk,vs[k]?=some x->IsT h' (a+3) (os.set n x)->h'.IsTupleIter c l (k+1)->h'.objs.size=s.heap.objs.size->(∀(d:Nat) (o:Obj),d≠a+3->d≠c->s.heap.get? d=some o->h'.get? d=some o)->Q (.yield b) { s with heap:=h',toks:=tk }) →
   (k=vs.size->∀h' e tk,(∀(d:Nat) (o:Obj),d≠a+4->d≠c->s.heap.get? d=some o->h'.get? d=some o)->Stops h' e->E (.ref e) { s with heap:=h',toks:=tk })->wpAny (model prog w) A (f (.ref c,n) b) Q E s)
  (hl:l<a) (hm:m<a) (hz:IsZip s.heap (a+4) (a+2) (a+3) .ellipsis) (hO:IsT s.heap (a+3) [x0,y0]) (h1:s.heap.IsTupleIter a l k) (h2:s.heap.IsTupleIter (a+1) m k) (hu:s.heap.IsTuple l us) (hv:s.heap.IsTuple m vs) (hk:k<=us.size) (hk2:k<=vs.size)
  (hQ:∀x y h' tk,us[k]?=some x->vs[k]?=some y->IsT h' (a+3) [x,y]->h'.IsTupleIter a l (k+1)->h'.IsTupleIter (a+1) m (k+1)->h'.objs.size=s.heap.objs.size->(∀(d:Nat) (o:Obj),d≠a->d≠a+1->d≠a+3->s.heap.get? d=some o->h'.get? d=some o)->Q b { s with heap:=h',toks:=tk })
  (hE:(k=us.size\/k=vs.size)->∀h' e tk,(∀(d:Nat) (o:Obj),(d<a\/a+4<d)->s.heap.get? d=some o->h'.get? d=some o)->Stops h' e->E (.ref e) { s with heap:=h',toks:=tk }) :
  wpAny (model prog w) A (forIn [((.ref a:Value),0),(.ref (a+1),1)] b f) Q E s:=by
 rw [yb5];refine yaa (hf a l 0 us _ s _ hl (by omega) rfl hz hO h1 hu hk (fun x g tk hx hO1 hI1 hs1 k1=>?_) (fun e h' e' tk k1=>hE (.inl e) h' e' tk fun d o p q=>k1 d o (by omega) (by omega) q));show wpAny _ _ (forIn [((.ref (a+1):Value),1)] b f) _ _ _;rw [yb5];refine yaa (hf (a+1) m 1 vs _ _ _ (by omega) (by omega) rfl (k1 _ _ (by omega) (by omega) hz) hO1 (h2.at fun o e=>k1 _ o (by omega) (by omega) e) (zgC hv fun o e=>k1 _ o (by omega) (by omega) e) hk2 (fun y g2 tk2 hy hO2 hI2 hs2 k2=>?_) (fun e h' e' tk' k2=>hE (.inr e) h' e' tk' fun d o p q=>k2 d o (by omega) (by omega) (k1 d o (by omega) (by omega) q)));exact yae (hQ x y g2 tk2 hx hy hO2 (hI1.at fun o e=>k2 _ o (by omega) (by omega) e) hI2 (hs2.trans hs1) fun d o p1 p2 p3 e=>k2 d o p3 p2 (k1 d o p3 p1 e))
theorem zgx{Q:Z5}(hh:A.handled=none)(Z:ZSt a l m k .none s.heap)(hl:l<a)(hm:m<a)(hu:s.heap.IsTuple l us)(hv:s.heap.IsTuple m vs)(hk:k<=us.size)(hk2:k<=vs.size)
  (hQ:∀x y h' tk,us[k]?=some x->vs[k]?=some y->ZSt a l m (k+1) (rawInt s.heap.objs.size) h'->IsT h' s.heap.objs.size [x,y]->(∀(c:Nat) (o:Obj),(c<a\/a+4<c)->s.heap.get? c=some o->h'.get? c=some o)->Q (.ref s.heap.objs.size) { s with heap:=h',toks:=tk })
  (hE:(k=us.size\/k=vs.size)->∀h' e tk,(∀(c:Nat) (o:Obj),(c<a\/a+4<c)->s.heap.get? c=some o->h'.get? c=some o)->Stops h' e->E (.ref e) { s with heap:=h',toks:=tk }) :
  wpAny (model prog w) A (Builtin.«zip.__next__» ⟨[.ref (a+4)],[]⟩) (fun fin s'=>∃v,fin=.done (.ret v)/\Q v s') E s:=by
 obtain ⟨hz,hI,⟨x0,y0,hO⟩,h1,h2⟩:=Z;show wpAny _ _ (field (.ref (a+4)) 2 >>= _) _ _ _;refine yaa (ya2 hz rfl (x:=.bool false) rfl ?_);show wpAny _ _ (field (.ref (a+4)) 3 >>= _) _ _ _;refine yaa (ya2 hz rfl (x:=.ref (a+2)) rfl ?_);refine yaa (ybC hI rfl ?_);show wpAny _ _ (Builtin.SmallTypes.ownedTupleIsFree (.ref (a+4)) >>= _) _ _ _;refine yaa ?_;unfold Builtin.SmallTypes.ownedTupleIsFree;refine yaa (ya2 hz rfl (x:=.none) rfl (yae ?_));simp only [ybY];refine yaa (yb6 ?_);refine yaa (ya2 hz rfl (x:=.ref (a+3)) rfl ?_);refine yaa (ybu hz (by simp) fun g hz₁ hs₁=>?_);replace hz₁:IsZip g (a+4) (a+2) (a+3) .ellipsis:=hz₁;have k₁:∀(c:Nat) (o:Obj),c≠a+4->s.heap.get? c=some o->g.get? c=some o:=fun c o hc e=>hs₁.extBut _ _ hc e
 refine yaa (zmG (a:=a) (l:=l) (m:=m) (k:=k) (us:=us) (vs:=vs) (fun c l n vs os s Q hc hb ho hz hO hI hv hk hx he=>?_) hl hm hz₁ (k₁ _ _ (by omega) hO) (h1.at fun o e=>k₁ _ o (by omega) e) (h2.at fun o e=>k₁ _ o (by omega) e) (zgC hu fun o e=>k₁ _ o (by omega) e) (zgC hv fun o e=>k₁ _ o (by omega) e) hk hk2 (fun x y h₂ tk hx hy hO₂ i1 i2 hs₂ k₂=>?_) (fun e h' e' tk k'=>hE e h' e' tk fun c o hc q=>k' c o hc (k₁ c o (by omega) q)))
 ·have D:=zfz (prog:=prog) (w:=w) hh c l (yap hc) vs;refine yaa (wpAny_onRaise ?_);show wpAny _ _ (Builtin.SmallTypes.nextOf (.ref c) >>= _) _ _ _
  rcases Nat.lt_or_eq_of_le hk with hlt | rfl
  ·refine yaa (D.item k _ _ _ hlt ⟨hI,hv⟩ fun x h₂ tk₂ px hI₂ hs₂=>yae ?_);have hO₂:IsT h₂ (a+3) os:=hs₂.extBut _ _ (yaT hb) hO;refine yaa (ybC hO₂ rfl ?_)
   have h9:os.length<=9:=by omega
   refine yaa (yc0 hO₂ rfl ?_ (by simp;exact yas h9 (by decide)) (by simp;exact yas h9 (by decide)));have hs₃:=Heap.SameBut.update h₂ (a+3) (Obj.mapSeq (·.setIfInBounds n x));refine yaa (wpAny_letGo (yae (hx x _ tk₂ px ?_ (hI₂.1.at fun o e=>hs₃.extBut _ _ (yap hb) e) (hs₃.1.trans hs₂.1) fun d o c1 c2 e=>hs₃.extBut _ _ c1 (hs₂.extBut _ _ c2 e))));show Heap.get? _ (a+3)=_;rw [yaY _ hO₂ rfl];simp [Obj.mapSeq]
  ·refine yaa (D.done _ _ _ ⟨hI,hv⟩ fun h₂ e hs₂ hs=>?_);obtain ⟨oe,hoe,hce⟩:=hs;have hz₂:=hs₂ _ _ (show a+4≠c by omega) hz
   have hez:e≠a+4:=fun x=>by subst x;rw [hz₂] at hoe;cases hoe;simp at hce
   exact ybu hz₂ (by simp) fun h₃ _ hs₃=>he rfl h₃ e _ (fun d o c1 c2 q=>hs₃.extBut _ _ c1 (hs₂ _ _ c2 q)) ⟨oe,hs₃.extBut _ _ hez hoe,hce⟩
 ·refine yaa (ybC hO₂ rfl ?_);refine yaa (wpAny_newTuple ?_ (hsz:=by show (2:Nat)<=_;decide));have hz₂:IsZip h₂ (a+4) (a+2) (a+3) .ellipsis:=k₂ _ _ (by omega) (by omega) (by omega) hz₁;have hsz:h₂.objs.size=s.heap.objs.size:=hs₂.trans hs₁.1;show wpAny _ _ (Builtin.SmallTypes.ownedTupleHandOut (.ref (a+4)) (.ref h₂.objs.size) >>= _) _ _ _;refine yaa ?_;unfold Builtin.SmallTypes.ownedTupleHandOut;refine yaa (ybu (yad _ hz₂) (by simp) fun h₄ hz₄ hs₄=>?_);replace hz₄:IsZip h₄ (a+4) (a+2) (a+3) (rawInt h₂.objs.size):=hz₄;refine ybu hz₄ (by simp) fun h₅ hz₅ hs₅=>?_
  replace hz₅:IsZip h₅ (a+4) (a+2) (a+3) (rawInt h₂.objs.size):=hz₅;have lt:a+4<h₂.objs.size:=yaj hz₂;have up:∀(c:Nat) (o:Obj),c≠a+4->h₂.get? c=some o->h₅.get? c=some o:=fun c o c1 e=>hs₅.extBut _ _ c1 (hs₄.extBut _ _ c1 (yad _ e))
  have hT:IsT h₅ h₂.objs.size [x,y]:=hs₅.extBut _ _ (yaT lt) (hs₄.extBut _ _ (yaT lt) (yag _ rfl));rw [hsz] at hz₅ hT;refine yae ⟨_,rfl,?_⟩;show Q (.ref h₂.objs.size) _;rw [hsz];exact hQ x y h₅ tk hx hy ⟨hz₅,up _ _ (by omega) (k₂ _ _ (by omega) (by omega) (by omega) (k₁ _ _ (by omega) hI)),⟨x,y,up _ _ (by omega) hO₂⟩,i1.at fun o e=>up _ o (by omega) e,i2.at fun o e=>up _ o (by omega) e⟩ hT fun c o hc e=>up c o (by omega) (k₂ c o (by omega) (by omega) (by omega) (k₁ c o (by omega) e))
def zjf:Meets (Builtin.«zip.__new__» ⟨[.type "zip",.ref l,.ref m],[]⟩) (fun _ R s=>s.heap.IsTuple l us/\s.heap.IsTuple m vs ∧
   ∀h' n,n=s.heap.objs.size->(∀(c:Nat) (o:Obj),s.heap.get? c=some o->h'.get? c=some o)->ZSt n l m 0 .none h'->R (.ok (.ret (.ref (n+4)))) { s with heap:=h' }) :=
 .of_wp fun prog w A R s h=>by
  obtain ⟨hp,g,d,tk,os⟩:=s;obtain ⟨hl1,hl2,h⟩:=h;have hsub:=sub_zip;have hL1:Heap.IsTuple (Shared.heap ⟨hp,g,d,tk,os⟩) l us:=hl1;have hL2:Heap.IsTuple (Shared.heap ⟨hp.push { cls:=.type "tuple_iterator",data:=.fields #[.ref l,.int 0 0] },g,d,tk,os⟩) m vs:=zgC hl2 fun o e=>yad _ e
  wp_walk using ybL hL1,ybL hL2
  refine ⟨_,rfl,?_⟩;have p {h:Heap} {o':Obj} {a:Addr} {o:Obj} (e:h.get? a=some o):(h.push o').get? a=some o:=yad _ e
  have u:∀{h:Heap} {o:Obj} {a:Addr},a=h.objs.size->o.isFreed=false->(h.push o).get? a=some o:=fun e ho=>by rw [e];exact yag _ ho
  simp only [yaS];exact h _ _ rfl (fun c o e=>p (p (p (p (p e))))) ⟨u (by simp only [yaS]) rfl,p (p (u (by simp only [yaS]) rfl)),⟨_,_,p (u (by simp only [yaS]) rfl)⟩,⟨_,p (p (p (p (u rfl rfl)))),rfl,rfl⟩,⟨_,p (p (p (u (by simp only [yaS]) rfl))),rfl,rfl⟩⟩
end
noncomputable def zFp(a:Nat):List Addr:=(List.range 5).map (a+·)
theorem zcG{a b:Nat}:b∈zFp a↔a<=b/\b<a+5:=by
 unfold zFp;rw [ybd];exact ⟨fun ⟨j,hj,e⟩=>by rw [ycf] at hj;have e:a+j=b:=e;omega,fun ⟨h1,h2⟩=>⟨b-a,ycf.mpr (by omega),by show a+(b-a)=b;omega⟩⟩
theorem zfY{a b:Nat}(h:b ∉ zFp a):b<a\/a+4<b:=by rw [zcG] at h;omega
def ZSt.keep{a l m i:Nat}{f:Value}{h h':Heap}(Z:ZSt a l m i f h)(k:∀(c:Nat) (o:Obj),a<=c->c<a+5->h.get? c=some o->h'.get? c=some o):ZSt a l m i f h' :=
 ⟨k _ _ (by omega) (by omega) Z.z,k _ _ (by omega) (by omega) Z.ti,let ⟨x,y,e⟩:=Z.to;⟨x,y,k _ _ (by omega) (by omega) e⟩,Z.i1.at fun o e=>k _ o (by omega) (by omega) e,Z.i2.at fun o e=>k _ o (by omega) (by omega) e⟩
section
variable{X:Cx}{pins:Z3}{σ:St}{H:Hp}{s:Shared}
noncomputable def ItZ(l m:Addr):It :=
 ⟨fun i H=>∃xs ys,H l=some (.tup xs)/\H m=some (.tup ys)/\i<xs.length/\i<ys.length,
  fun i H v H'=>∃t x y xs ys,v=.ref t/\H t=none/\H'=upd H t (.tup [x,y])/\H l=some (.tup xs)/\H m=some (.tup ys)/\xs[i]?=some x/\ys[i]?=some y,
  fun i H=>∃xs ys,H l=some (.tup xs)/\H m=some (.tup ys)/\i<=xs.length/\i<=ys.length/\(i=xs.length\/i=ys.length)⟩
def zmH{fp:List Addr}{T:Addr}{h2:Heap}{tk:Nat}{us:List Value}{ys:List V}(I:Inv X pins σ H s)(hf:∀b∈fp,zkd X pins H b)(hT:T=s.heap.objs.size)(te:IsT h2 T us)
  (k:∀b o,b ∉ fp->s.heap.get? b=some o->h2.get? b=some o) (r:Vals ys us) (h9:us.length<=9):Inv X pins σ (upd H T (.tup ys)) { s with heap:=h2,toks:=tk }/\H T=none:=by
 have fr:H T=none:=by rw [hT];exact I.hok.fresh (yah _)
 refine ⟨?_,fr⟩;have I1:Inv X pins σ H { s with heap:=h2,toks:=tk }:=I.turnedL (ch:=fp) (fun b o hb q=>k b o hb q) hf;refine I1.track fr (by rw [hT];exact I.sz) (by rw [hT];exact yaT I.lt) (fun z c q=>?_) (fun p hp=>?_) ?_
 ·obtain ⟨v,cq⟩:=I.cell z c q;rw [hT];exact yap cq.lt
 ·rw [hT];exact yap (yaj (I.pin p hp).1)
 ·exact ⟨yas (r.length ▸ h9) (by decide),us,r,_,te,rfl,_,rfl,rfl⟩
theorem zkk{P:Program}{w:World}{K:PySem.W.Frag}{elts:List Expr}{x1:Nat}{pos:Pos}{a l m:Nat}(hl:l<a)(hm:m<a) :
  Turn P w K (.Tuple elts x1 pos) (ItZ l m) (zFp a) (a+4) (fun i h=>ZSt a l m i .none h) where
 mem:=zcG.mpr (by omega)
 obj:=fun i h st b hb=>by
  obtain ⟨hz,hI,⟨x,y,hO⟩,⟨o1,e1,_,d1⟩,⟨o2,e2,_,d2⟩⟩:=st;obtain ⟨h1,h2⟩:=zcG.mp hb;obtain ⟨j,rfl⟩:∃j,b=a+j:=⟨b-a,(Nat.add_sub_cancel' h1).symm⟩
  match j,h2 with
  | 0,_=>exact ⟨_,e1,fun v e=>by rw [d1] at e;cases e⟩
  | 1,_=>exact ⟨_,e2,fun v e=>by rw [d2] at e;cases e⟩
  | 2,_=>exact ⟨_,hI,fun v e=>by cases e⟩
  | 3,_=>exact ⟨_,hO,fun v e=>by cases e⟩
  | 4,_=>exact ⟨_,hz,fun v e=>by cases e⟩
  | j+5,h=>omega
 keep:=fun i h h' st k=>st.keep fun c o c1 c2 e=>k _ (zcG.mpr ⟨c1,c2⟩) _ e
 item:=by
  intro X hP hw hK hc i pins s σ H E I hf st hg;subst hP hw hK;obtain ⟨xs,ys,g1,g2,hi,hj⟩:=hg;obtain ⟨us,ru,t1,_⟩:=I.tuple (SqT.of g1);obtain ⟨vs,rv,t2,_⟩:=I.tuple (SqT.of g2);have hT:s.TypeIs (.ref (a+4)) "zip":=⟨_,st.z,rfl⟩;unfold pyNext
  refine yaa (ybN (yaM (name:=Str.ofString "__next__") hT yc1 (yaI yc1 hT F.entry_zip_next
   (zgx (A:=X.A.in1) (I.ok.hd hc) st hl hm t1 t2 (by rw [yaf,<-ru.length];exact ycG hi) (by rw [yaf,<-rv.length];exact ycG hj) (fun x y h' tk hx hy a1 a4 a5=>yae ?_)
    (fun e=>by rw [yaf,yaf,<-ru.length,<-rv.length] at e;omega)) (F.args_zip_next_1 _))))
  have ltz:a+4<s.heap.objs.size:=yaj st.z;refine ⟨_,rfl,wpAny_letOwnedTupleGo_zip a1.z fun h2' hz2 sb=>?_⟩;have kb:∀(c:Nat) (o:Obj),c≠a+4->h'.get? c=some o->h2'.get? c=some o:=fun c o hc e=>(sb.2 c hc).trans e
  obtain ⟨x',hx1,hx2⟩:=ru.get (yac hi);obtain ⟨y',hy1,hy2⟩:=rv.get (yac hj);rw [List.getElem?_toArray,hx1] at hx;cases hx;rw [List.getElem?_toArray,hy1] at hy;cases hy;obtain ⟨I2,fr⟩:=zmH (tk:=tk) (h2:=h2') I hf rfl (kb _ _ (yaT ltz) a4) (fun b o hb q=>kb b o (by have:=zfY hb;omega) (a5 b o (zfY hb) q)) (.cons hx2 (.cons hy2 .nil)) (by simp);refine ⟨.ref s.heap.objs.size,_,I2,rfl,⟨_,_,_,xs,ys,rfl,fr,rfl,g1,g2,yac hi,yac hj⟩,⟨hz2,kb _ _ (by omega) a1.ti,let ⟨x,y,e⟩:=a1.to;⟨x,y,kb _ _ (by omega) e⟩,a1.i1.at fun o e=>kb _ o (by omega) e,a1.i2.at fun o e=>kb _ o (by omega) e⟩,fun b hb=>?_⟩;rw [zad (fun e=>by have:=(zcG.mp (e ▸ hb)).2;omega)];exact (hf b hb).1
 done:=by
  intro X hP hw hK hc i pins s σ H E I hf st hg;subst hP hw hK;obtain ⟨xs,ys,g1,g2,h1,h2,hi⟩:=hg;obtain ⟨us,ru,t1,_⟩:=I.tuple (SqT.of g1);obtain ⟨vs,rv,t2,_⟩:=I.tuple (SqT.of g2);have hT:s.TypeIs (.ref (a+4)) "zip":=⟨_,st.z,rfl⟩;unfold pyNext
  refine yaa (ybN (yaM (name:=Str.ofString "__next__") hT yc1 (yaI yc1 hT F.entry_zip_next
   (zgx (A:=X.A.in1) (I.ok.hd hc) st hl hm t1 t2 (by rw [yaf,<-ru.length];exact h1) (by rw [yaf,<-rv.length];exact h2) (fun x y h' tk hx hy=>by
     have e1:=(ybK.mp hx).1;have e2:=(ybK.mp hy).1;rw [yaf,<-ru.length] at e1;rw [yaf,<-rv.length] at e2
     omega) (fun _ h' e tk hk he'=>?_)) (F.args_zip_next_1 _))))
  obtain ⟨o,ho,hcl⟩:=he';refine yaa (ybl (T:="StopIteration") (b:=true) ⟨o,ho,hcl⟩ ydc ?_);exact yae ⟨rfl,I.turnedL (ch:=zFp a) (fun b o hb q=>hk b o (zfY hb) q) hf⟩
 self:=fun _ _ _ _ _ st h=>wpAny_pyIter_zip st.z h
theorem zlH:bootBuiltins "zip" = some (.type "zip"):=by decide +kernel
def zoP(I1:Inv X pins σ H1 s1)(g1:H1 l=some (.tup xs))(g2:H1 m=some (.tup ys))(q:R (ItZ l m) H1) :
  wpAny (model X.prog X.w) X.A (call (.type "zip") [.ref l,.ref m]) (fun v s2=>wpAny (model X.prog X.w) X.A (pyIter v) (PIE X pins σ (.Tuple elts x1 tp) R) X.xe s2) X.xe s1:=by
 obtain ⟨us,ru,t1,_⟩:=I1.tuple (SqT.of g1);obtain ⟨vs,rv,t2,_⟩:=I1.tuple (SqT.of g2);refine callType_new F.called_zip (by decide) (F.typeCall_zip_2 _ _) (F.newCall_zip_2 _ _) (fun o=>F.args_object_init_3 o _ _) F.entry_zip_new zjf ⟨t1,t2,fun h' n hn hk Z=>?_⟩;refine ⟨⟨_,Z.z,rfl⟩,wpAny_pyIter_zip Z.z ?_⟩;refine ⟨n+4,zFp n,_,_,H1,rfl,I1.kept (t':=s1.toks) hk,zkk ?_ ?_,Z,fun c hb=>?_,q⟩
 ·obtain ⟨o,ho,_⟩:=t1;rw [hn];exact yaj ho
 ·obtain ⟨o,ho,_⟩:=t2;rw [hn];exact yaj ho
 ·have hc:s1.heap.objs.size<=c:=hn ▸ (zcG.mp hb).1;exact I1.fpOk hc (I1.hok.fresh hc)
end
end L2
namespace S2
open PySem PySem.Spec PyProof.Rows L2
section
variable{X:Cx}{cl:Cf}{E:St->XK}{e tg:Expr}{f:Fe}{own:Bool}{pos pos':Pos}
noncomputable def zrM:List D->Option D | [.int i,.int j]=>some (.int (if j > i then j else i)) | _=>none
noncomputable def zrL:List D->Option D | [.int i,.int j]=>some (.int (if j<i then j else i)) | _=>none
noncomputable def ztK:List D->Option D | [.int i]=>some (.int (if i<0 then -i else i)) | _=>none
noncomputable def zte:List D->Option D | [.int i]=>some (.int i) | [.bl b]=>some (.int (if b then 1 else 0)) | _=>none
def zrc(hc:X.calm=true):zdN X cl (.builtin "max") zrM:=by
 intro pins s σ H xs us Q I r h;obtain ⟨w,ds,d,rfl,hx,hg,q⟩:=h;unfold zrM at hg;split at hg
 ·rename_i i j;cases hg
  cases hx with
  | cons h1 h2=>cases h2 with
   | cons h2 h3 =>
    cases h3;obtain rfl:=h1.intI;obtain rfl:=h2.intI;exact zjZ hc pins s σ w.H _ us Q I r ⟨i,j,rfl,q _ w (Grow.refl _) (.int _)⟩
 ·cases hg
def zrb(hc:X.calm=true):zdN X cl (.builtin "min") zrL:=by
 intro pins s σ H xs us Q I r h;obtain ⟨w,ds,d,rfl,hx,hg,q⟩:=h;unfold zrL at hg;split at hg
 ·rename_i i j;cases hg
  cases hx with
  | cons h1 h2=>cases h2 with
   | cons h2 h3 =>
    cases h3;obtain rfl:=h1.intI;obtain rfl:=h2.intI;exact zjY hc pins s σ w.H _ us Q I r ⟨i,j,rfl,q _ w (Grow.refl _) (.int _)⟩
 ·cases hg
def zrg:zdN X cl (.builtin "abs") ztK:=by
 intro pins s σ H xs us Q I r h;obtain ⟨w,ds,d,rfl,hx,hg,q⟩:=h;unfold ztK at hg;split at hg
 ·rename_i i;cases hg
  cases hx with
  | cons h1 h2 =>
   cases h2;obtain rfl:=h1.intI;exact zlG pins s σ w.H _ us Q I r ⟨i,rfl,q _ w (Grow.refl _) (.int _)⟩
 ·cases hg
def zre:zdN X cl (.type "int") zte:=by
 intro pins s σ H xs us Q I r h;obtain ⟨w,ds,d,rfl,hx,hg,q⟩:=h;unfold zte at hg;split at hg
 ·rename_i i;cases hg
  cases hx with
  | cons h1 h2 =>
   cases h2;obtain rfl:=h1.intI;exact zfH pins s σ w.H _ us Q I r (.inl ⟨i,rfl,q _ w (Grow.refl _) (.int _)⟩)
 ·rename_i b;cases hg
  cases hx with
  | cons h1 h2 =>
   cases h2;obtain rfl:=h1.blI;exact zfH pins s σ w.H _ us Q I r (.inr ⟨b,rfl,q _ w (Grow.refl _) (.int _)⟩)
 ·cases hg
noncomputable def zcS(l:List D):List D:=l.zipIdx.map fun p=>.tup [.int p.2,p.1]
def zjI(l:List D):(zcS l).length=l.length:=by unfold zcS;rw [yao,List.length_zipIdx]
def zjJ{l:List D}{i:Nat}{d:D}(h:(zcS l)[i]?=some d):∃y,l[i]?=some y/\d=.tup [.int i,y]:=by
 unfold zcS at h;rw [yaq,List.getElem?_zipIdx] at h
 cases hl:l[i]? with
 | none=>rw [hl] at h;cases h
 | some y =>
  rw [hl] at h;refine ⟨y,rfl,?_⟩;have:=Option.some.inj h;rw [<-this];simp
def zjO(f:Fe):Fi:=fun ρ S=>(zag [f] ρ S).bind fun ds S1=>match ds with | [.lst l]=>.ok (zcS l) S1 | [.tup l]=>.ok (zcS l) S1 | _=>.bad
theorem zmp(hS:∀w',Fut w w'->S w'.H a xs)(r:Shds cl w xs l):ItOk cl w (ItE S a) (zcS l):=by
 have hl:=r.length;have hel:=zjI l;refine ⟨fun w1 F1 i hi=>⟨xs,xs[i]'(by omega),hS w1 F1,yac (by omega)⟩,fun w1 F1=>⟨xs,hS w1 F1,by omega⟩,fun w1 F1 i d x H1 hd y=>?_⟩;obtain ⟨t,v,rfl,ht,rfl,hy⟩:=y;obtain ⟨z,hz,rfl⟩:=zjJ hd;have hv:=hy xs (hS w1 F1);obtain ⟨d',e1,e2⟩:=r.get hv;rw [hz] at e1;cases e1;exact ⟨w1.add t _,rfl,zah ht _,Shd.newT ht (.cons (.int _) (.cons (e2.up F1) .nil))⟩
def znf(hg:Gl X "enumerate")(hm:X.mg "enumerate" = none)(ha:PA X [e] (tAs cl E [f]))(hs:starEach [e] X.env=[(false,eval e X.env)]):PI X (.Tuple es kk tp) (.Call (.Name "enumerate" p) [e] [] pos) (tI cl E (zjO f)):=by
 intro pins s σ H R' I q;obtain ⟨B,w,ρ,S,rfl,R,q⟩:=q;unfold zjO at q;have L:=zkL (elts:=es) (x1:=kk) (tp:=tp) (p:=p) (pos:=pos) hg hm ha rfl hs pins s σ w.H R' I;have T:=zkK (elts:=es) (x1:=kk) (tp:=tp) (p:=p) (pos:=pos) hg hm ha rfl hs pins s σ w.H R' I
 cases hf:zag [f] ρ S with
 | bad=>rw [hf] at q;exact q.elim
 | exc c S1 =>
  refine L ⟨B,w,ρ,S,rfl,R,?_⟩;rw [hf] at q ⊢;exact q
 | ok ds S1 =>
  rw [hf] at q;dsimp only [Out.bind] at q;split at q
  ·rename_i l' S' hm';split at hm'
   ·rename_i l;cases hm';refine L ⟨B,w,ρ,S,rfl,R,?_⟩;rw [hf];intro vs w' R2 F2 sh
    cases sh with
    | cons h1 h2 =>
     cases h2
     cases h1 with
     | lst ep k r=>exact ⟨_,rfl,⟨_,SqL.of ep⟩,q _ w' R2 F2 (zmp (fun w1 F1=>SqL.of (F1.keep _ _ ep k).1) r)⟩
   ·rename_i l;cases hm';refine T ⟨B,w,ρ,S,rfl,R,?_⟩;rw [hf];intro vs w' R2 F2 sh
    cases sh with
    | cons h1 h2 =>
     cases h2
     cases h1 with
     | tup ep k r=>exact ⟨_,rfl,⟨_,SqT.of ep⟩,q _ w' R2 F2 (zmp (fun w1 F1=>SqT.of (F1.keep _ _ ep k).1) r)⟩
   ·cases hm'
  ·rename_i hm';split at hm'<;>cases hm'
  ·exact q.elim
noncomputable def zfX:List D->List D->List D
 | x::xs,y::ys=>.tup [x,y]::zfX xs ys
 | _,_=>[]
theorem zgy:∀(xs ys:List D),(zfX xs ys).length=min xs.length ys.length
 | [],_=>by simp [zfX]
 | _::_,[]=>by simp [zfX]
 | _::xs,_::ys=>by simp [zfX,zgy xs ys]
theorem zgz:∀{xs ys:List D} {i:Nat} {d:D},(zfX xs ys)[i]?=some d->∃x y,xs[i]?=some x/\ys[i]?=some y/\d=.tup [x,y]
 | [],_,_,_,h=>by simp [zfX] at h
 | _::_,[],_,_,h=>by simp [zfX] at h
 | x::xs,y::ys,0,d,h=>by
  simp only [zfX,List.getElem?_cons_zero,Option.some.injEq] at h;exact ⟨x,y,rfl,rfl,h.symm⟩
 | x::xs,y::ys,i+1,d,h=>by
  simp only [zfX,ycv] at h ⊢;exact zgz h
def zq0(f g:Fe):Fi:=fun ρ S=>(zag [f,g] ρ S).bind fun ds S1=>match ds with | [.tup l,.tup k]=>.ok (zfX l k) S1 | _=>.bad
theorem zqH(h1:∀w',Fut w w'->w'.H l1=some (.tup xs))(h2:∀w',Fut w w'->w'.H l2=some (.tup ys))(r1:Shds cl w xs ds)(r2:Shds cl w ys es):ItOk cl w (ItZ l1 l2) (zfX ds es):=by
 have e1:=r1.length;have e2:=r2.length;have el:=zgy ds es;refine ⟨fun w1 F1 i hi=>⟨xs,ys,h1 w1 F1,h2 w1 F1,by omega,by omega⟩,fun w1 F1=>⟨xs,ys,h1 w1 F1,h2 w1 F1,by omega,by omega,by omega⟩,fun w1 F1 i d x H1 hd y=>?_⟩;obtain ⟨t,v1,v2,xs',ys',rfl,ht,rfl,g1,g2,hx,hy⟩:=y;obtain ⟨z1,z2,hz1,hz2,rfl⟩:=zgz hd;cases (h1 w1 F1).symm.trans g1;cases (h2 w1 F1).symm.trans g2;obtain ⟨d1,q1,s1⟩:=r1.get hx;obtain ⟨d2,q2,s2⟩:=r2.get hy;rw [hz1] at q1;cases q1;rw [hz2] at q2;cases q2;exact ⟨w1.add t _,rfl,zah ht _,Shd.newT ht (.cons (s1.up F1) (.cons (s2.up F1) .nil))⟩
def zpk(hg:Gl X "zip")(hm:X.mg "zip" = none)(ha:PA X [a,e] (tAs cl E [fa,f]))(hs:starEach [a,e] X.env=(false,eval a X.env)::starEach [e] X.env)(hs2:(backTo pos (starEach [e] X.env)).any (·.1)=false):PI X (.Tuple es kk tp) (.Call (.Name "zip" p) [a,e] [] pos) (tI cl E (zq0 fa f)):=by
 intro pins s σ H R' I q;refine Call_ (zbp I hg hm L2.zlH (yaC (thn (ha pos pins s σ H (fun vs H1=>∃l m xs ys,vs=[.ref l,.ref m]/\H1 l=some (.tup xs)/\H1 m=some (.tup ys)/\R' (ItZ l m) H1) I ?_) fun us s1 ⟨vs,H1,I1,r1,q1⟩=>?_) hs hs2))
 ·obtain ⟨B,w,ρ,S,rfl,R,q⟩:=q;refine ⟨B,w,ρ,S,rfl,R,?_⟩;dsimp only [zq0] at q
  cases hf:zag [fa,f] ρ S with
  | bad=>rw [hf] at q;exact q.elim
  | exc c S1=>rwa [hf] at q
  | ok ds S1 =>
   rw [hf] at q;dsimp only [Out.bind] at q;intro vs w' R2 F2 sh
   have hz:(∃l k,ds=[.tup l,.tup k])\/(match ds with | [.tup l,.tup k]=>Out.ok (zfX l k) S1 | _=>.bad)=.bad:=by
    split
    ·exact .inl ⟨_,_,rfl⟩
    ·exact .inr rfl
   rcases hz with ⟨l,k,rfl⟩ | e
   ·cases sh with
    | cons h1 h2 =>
     cases h2 with
     | cons h2 h3 =>
      cases h3
      cases h1 with
      | tup e1 k1 r1 =>
       cases h2 with
       | tup e2 k2 r2 =>
        exact ⟨_,_,_,_,rfl,(Fut.refl w').keep _ _ e1 k1 |>.1,(Fut.refl w').keep _ _ e2 k2 |>.1,q _ w' R2 F2 (zqH (fun w1 F1=>(F1.keep _ _ e1 k1).1) (fun w1 F1=>(F1.keep _ _ e2 k2).1) r1 r2)⟩
   ·rw [e] at q;exact q.elim
 ·obtain ⟨l,m,xs,ys,rfl,g1,g2,q⟩:=q1
  cases r1 with
  | cons a1 r1 =>
   cases r1 with
   | cons a2 r1=>cases r1;cases a1;cases a2;exact zoP I1 g1 g2 q
noncomputable def zdg(j c:Int):List D:=(List.range ((j+c-1) / c).toNat).map fun (i:Nat)=>.int (i*c)
def zjK(f g h:Fe):Fi:=fun ρ S=>(zag [f,g,h] ρ S).bind fun ds S1=>match ds with | [.int i,.int j,.int c]=>if i=0/\0<=j/\j<=1000/\1<=c/\c<=1000 then .ok (zdg j c) S1 else .bad | _=>.bad
def zqJ{w:Wd}{j c:Int}:ItOk cl w (Itq 0 c ((j+c-1) / c).toNat) (zdg j c):=by
 have hl:(zdg j c).length=((j+c-1) / c).toNat:=by unfold zdg;rw [yao,yb9]
 refine ⟨fun w1 F1 i h=>by rw [hl] at h;exact h,fun w1 F1=>by rw [hl];exact yah _,fun w1 F1 i d x H1 hd y=>?_⟩;obtain ⟨rfl,rfl⟩:=y;unfold zdg at hd;rw [yaq] at hd
 cases hr:(List.range ((j+c-1) / c).toNat)[i]? with
 | none=>rw [hr] at hd;cases hd
 | some k =>
  rw [hr] at hd;have:=(yai.mp hr).2;rw [List.getElem_range] at this;subst this;cases hd;refine ⟨w1,rfl,Grow.refl _,?_⟩;rw [Int.zero_add];exact .int _
def znb{a b:Expr}{fa fb:Fe}{p:Pos}(hg:Gl X "range")(hm:X.mg "range" = none)(ha:PA X [a,b,e] (tAs cl E [fa,fb,f]))(hs:starEach [a,b,e] X.env=(false,eval a X.env)::starEach [b,e] X.env)(hs2:(backTo pos (starEach [b,e] X.env)).any (·.1)=false):PI X tg (.Call (.Name "range" p) [a,b,e] [] pos) (tI cl E (zjK fa fb f)):=by
 refine PI.imp (ziR hg hm ha hs hs2) ?_;rintro σ H Q ⟨B,w,ρ,S,rfl,R,q⟩;refine ⟨B,w,ρ,S,rfl,R,?_⟩;unfold zjK at q
 cases hf:zag [fa,fb,f] ρ S with
 | bad=>rwa [hf] at q
 | exc c S1=>rwa [hf] at q
 | ok ds S1 =>
  rw [hf] at q;intro vs w' R' F' h';dsimp only [Out.bind] at q;split at q
  ·rename_i ds' S' hm';split at hm'
   ·rename_i i j c;split at hm'
    ·rename_i hb;obtain ⟨rfl,h1,h2,h3,h4⟩:=hb;cases hm'
     cases h' with
     | cons a1 a2=>cases a1;cases a2 with
      | cons b1 b2=>cases b1;cases b2 with
       | cons c1 c2 =>
        cases c1;cases c2;exact ⟨j,c,rfl,h1,h2,h3,h4,q _ w' R' F' zqJ⟩
    ·cases hm'
   ·cases hm'
  ·rename_i hm';split at hm'<;>first | (split at hm'<;>cases hm') | cases hm'
  ·exact q.elim
def zrG(i:Nat)(fe:Fe):Fs:=fun ρ S=>match ρ[i]? with
 | some (some (true,.lst l))=>(match fe ρ S with
  | .ok (.lst k) S'=>if small (l.length+k.length) then .nx (ρ.set i (some (true,.lst (l++k)))) S' else .bad
  | .ok _ _=>.bad
  | .exc c S'=>.ex c ρ S' | .bad=>.bad)
 | _=>.bad
def zpe{i:Nat}{x:Str}{ap cp:Pos}(hN:X.N[i]?=some x)(hv:Vis X.env.scope x)(hd:(x == ("__debug__":Str))=false)(hcd:(x == ("__classdict__":Str))=false)(he:PE X e (tH cl E f))
  (hpl:zaB e=true) (hln:(ap.endLine == cp.line)=true):PS X (.Expr (.Call (.Attribute (.Name x pos') "extend" ap) [e] [] cp) pos) (tS cl E own (zrG i f)):=by
 refine PS.imp (zdk (zhH (es:=[]) ybg PySem.F.slot_list_extend PySem.F.type_list_extend zi9 (zaU hN hv hd hcd) (zat he zaV (zap hpl)) (hfew:=zc3 (by simp [hpl]) (by simp)) (hline:=hln) (hs:=zap hpl) (hplain:=rfl))) ?_;rintro De σ H ⟨B,w,ρ,S,rfl,R,q⟩;unfold zrG at q;split at q
 ·rename_i l hl;obtain ⟨a,xs,e1,h1,h2,t⟩:=R.list hl;refine ⟨_,e1,.inl ⟨rfl,_,SqL.of h2⟩,B,w,ρ,S,rfl,R,?_⟩
  cases hf:f ρ S with
  | bad=>rwa [hf] at q
  | exc c S1=>rw [hf] at q;exact fun w' R' F'=>q σ w' R' F'
  | ok d S1 =>
   rw [hf] at q;intro v w' R' F' h'
   cases d with
   | lst k =>
    dsimp only at q
    cases hz:small (l.length+k.length) with
    | false=>rw [hz,if_neg (by decide)] at q;exact q.elim
    | true =>
     rw [hz,if_pos rfl] at q;obtain ⟨a',xs',e1',h1',h2',t'⟩:=R'.list hl;rw [e1] at e1';cases e1';obtain ⟨b,zs,rfl,eb,rb⟩:=(h'.top R').lstI;refine ⟨a,b,xs',zs,rfl,rfl,h2',eb,by rw [t'.length,rb.length];exact zav hz,?_⟩;exact q σ (w'.mut a (.lst (xs'++zs))) (R'.mut (d0:=.non) e1 h1' (.lst (t'.append rb))) (F'.trans (zbe (by rw [h1'];exact yat _)))
   | _=>exact q.elim
 ·exact q.elim
end
section
variable{X:Cx}{cl:Cf}{E:St->XK}{e:Expr}{f:Fe}{pos':Pos}
def eMt(g:List D->D->Option D)(i:Nat)(f:Fe):Fe:=fun ρ S=>match ρ[i]? with | some (some (_,.lst l))=>(f ρ S).bind fun d S1=>Out.of (g l d) S1 | _=>.bad
def zdG(l:List D)(d:D):Option D:=if d.fit 8&&D.fits 8 l then some (.int ((l.countP (zer · d):Nat):Int)) else none
def zbi(l:List D)(d:D):Option D:=if d.fit 8&&D.fits 8 l&&decide (l.length<=1000000)&&zml d l then some (.int ((l.findIdx (zer · d):Nat):Int)) else none
def Rel.lstAny{B:Base}{σ:St}{w:Wd}{ρ:Env}{S:Sto}{i:Nat}{o:Bool}{l:List D}(R:Rel cl B σ w ρ S)(h:ρ[i]?=some (some (o,.lst l))):∃a xs,σ[i]?=some (some (.ref a))/\w.H a=some (.lst xs)/\Shds cl w xs l:=by
 cases o with
 | true=>obtain ⟨a,xs,e1,_,h2,t⟩:=R.list h;exact ⟨a,xs,e1,h2,t⟩
 | false =>
  obtain ⟨v,e1,sh⟩:=R.slots i false _ h
  cases sh with
  | lst ep k r=>exact ⟨_,_,e1,ep,r⟩
noncomputable def MtB(X:Cx)(cl:Cf)(id:String)(g:List D->D->Option D):Prop:=MtM X id fun x vs H Q=>∃(a:Addr) (xs:List V) (l:List D) (w:Wd) (d:D) (v:V) (r:Int),w.H=H/\x=.ref a/\vs=[v]/\w.H a=some (.lst xs)/\Shds cl w xs l/\TopV cl w v d/\g l d=some (.int r)/\Q (.int r) H
theorem zc7{s:Shared}{d:D}:∀{its:List Value} {ds:List D} {as:List Addr},ReadsAll s.heap its (D.pys ds) as->D.fits 8 ds=true->its.countP (fun y=>(SeqAt.readOf s.heap y).eqv d.py)=ds.countP (zer · d)
 | [],[],_,_,_=>rfl
 | [],_::_,_,h,_=>by cases h
 | _::_,[],_,h,_=>by cases h
 | v::its,e::ds,_,h,f=>by
  simp only [D.fits,yab] at f
  cases h with
  | cons h1 h2 =>
   rw [List.countP_cons,List.countP_cons,zc7 h2 f.2,zf7 (D.lay f.1).1 h1];rfl
theorem zbr{s:Shared}{d:D}:∀{its:List Value} {ds:List D} {as:List Addr},ReadsAll s.heap its (D.pys ds) as->D.fits 8 ds=true->∀(m:Nat) (hm:m<its.length),∃e,ds[m]?=some e/\(SeqAt.readOf s.heap its[m]).eqv d.py=zer e d
 | [],_,_,_,_,m,hm=>by simp at hm
 | _::_,[],_,h,_,_,_=>by cases h
 | v::its,e::ds,_,h,f,m,hm=>by
  simp only [D.fits,yab] at f
  cases h with
  | cons h1 h2 =>
   cases m with
   | zero=>exact ⟨e,rfl,by show (SeqAt.readOf s.heap v).eqv d.py=_;rw [zf7 (D.lay f.1).1 h1];rfl⟩
   | succ m =>
    obtain ⟨e',h3,h4⟩:=zbr h2 f.2 m (by simpa using hm);exact ⟨e',by simpa using h3,by simpa using h4⟩
theorem zcK{s:Shared}:∀{its:List Value} {ds:List D} {as:List Addr},ReadsAll s.heap its (D.pys ds) as->its.length=ds.length
 | [],[],_,_=>rfl
 | [],_::_,_,h=>by cases h
 | _::_,[],_,h=>by cases h
 | _::its,_::ds,_,h=>by
  cases h with
  | cons _ h2=>rw [yam,yam,zcK h2]
def zg2(hK:X.K=cl.K)(hu:X.A.units+64<cLine):MtB X cl "list.count" zdG:=by
 intro pins s σ H x vs v us Q I rx rv h;obtain ⟨a,xs,l,w,d,v',r,rfl,rfl,rfl,hH,sh,tv,hg,q⟩:=h;unfold zdG at hg;split at hg
 ·rename_i hf;cases hg;rw [yab] at hf;cases rx;obtain ⟨u,rfl,ru⟩:=rv.one;obtain ⟨bs,rb⟩:=zep I hK tv hf.1 ru;obtain ⟨z,its,n,r,hl,e⟩:=I.lstM hH;obtain ⟨as,ra⟩:=zbM I hK sh hf.2 r;refine ybW F.slot_list_count ⟨_,e,rfl⟩ F.entry_list_count (F.args_list_count_2 _ _) (SeqAt.list_countAt a _ n none #[] u (fun y=>(SeqAt.readOf s.heap y).eqv d.py)) ⟨e,fun y hy=>za4 hu rb hf.1 ra hf.2 y hy,?_⟩;rw [zc7 ra hf.2];exact ⟨.int _,w.H,I.tok _,⟨_,rfl⟩,q⟩
 ·cases hg
theorem zg1(hK:X.K=cl.K)(hu:X.A.units+64<cLine):MtB X cl "list.index" zbi:=by
 intro pins s σ H x vs v us Q I rx rv h;obtain ⟨a,xs,l,w,d,v',r,rfl,rfl,rfl,hH,sh,tv,hg,q⟩:=h;unfold zbi at hg;split at hg
 ·rename_i hf;cases hg;simp only [yab,yaB] at hf;obtain ⟨⟨⟨f1,f2⟩,f3⟩,f4⟩:=hf;cases rx;obtain ⟨u,rfl,ru⟩:=rv.one;obtain ⟨bs,rb⟩:=zep I hK tv f1 ru;obtain ⟨z,its,n,r,hl,e⟩:=I.lstM hH;obtain ⟨as,ra⟩:=zbM I hK sh f2 r;have hlen:=zcK ra
  have hlt:l.findIdx (zer · d)<l.length:=by
   rw [List.findIdx_lt_length];unfold zml at f4;rwa [List.any_eq_true] at f4
  refine ybW F.slot_list_index ⟨_,e,rfl⟩ F.entry_list_index (F.args_list_index_2 _ _) (SeqAt.list_indexAt a _ n none #[] u (fun y=>(SeqAt.readOf s.heap y).eqv d.py) (l.findIdx (zer · d)) (by rw [yaf];omega) (by omega) ?_ ?_) ⟨e,fun y hy=>za4 hu rb f1 ra f2 y hy,?_⟩
  ·obtain ⟨e',h1,h2⟩:=zbr (d:=d) ra f2 (l.findIdx (zer · d)) (by omega);simp only [yce];rw [h2];rw [yac hlt] at h1;cases h1;exact List.findIdx_getElem (w:=hlt)
  ·intro m hm hmj
   have lm:m<its.length:=by rwa [yaf] at hm
   obtain ⟨e',h1,h2⟩:=zbr (d:=d) ra f2 m lm;simp only [yce];rw [h2];rw [yac (by omega)] at h1;cases h1;exact List.not_of_lt_findIdx hmj
  ·exact ⟨.int _,w.H,I.tok _,⟨_,rfl⟩,q⟩
 ·cases hg
def zkv{id:String}{ap cp:Pos}(slot:Slot "list" name id)(hty:typeOf (.builtin id)=pure (.type "method_descriptor"))(hm:MtB X cl id g)(hgb:∀l d r,g l d=some r->∃n,r=.int n)
  (hN:X.N[i]?=some x) (hv:Vis X.env.scope x) (hd:(x == ("__debug__":Str))=false) (hcd:(x == ("__classdict__":Str))=false) (he:PE X e (tH cl E f)) (hpl:zaB e=true) (hln:(ap.endLine == cp.line)=true) :
  PE X (.Call (.Attribute (.Name x pos') name ap) [e] [] cp) (tE cl E (eMt g i f)):=by
 refine PE.imp (zhH (es:=[]) ybg slot hty hm (zaU hN hv hd hcd) (zf4 he ziy (zap hpl)) (hfew:=zc3 (by simp [hpl]) (by simp)) (hline:=hln) (hs:=zap hpl) (hplain:=rfl)) ?_;rintro σ H Q ⟨B,w,ρ,S,rfl,R,q⟩
 have key:(∃o l,ρ[i]?=some (some (o,.lst l)))\/eMt g i f ρ S=.bad:=by
  unfold eMt;split
  ·rename_i o l hl;exact .inl ⟨o,l,hl⟩
  ·exact .inr rfl
 rcases key with ⟨o,l,hl⟩ | hb
 ·have e':eMt g i f ρ S=(f ρ S).bind fun d S1=>Out.of (g l d) S1:=by unfold eMt;rw [hl]
  rw [e'] at q;obtain ⟨a,xs,e1,h2,t⟩:=R.lstAny hl;refine ⟨_,e1,.inl ⟨rfl,_,SqL.of h2⟩,B,w,ρ,S,rfl,R,?_⟩
  cases hf:f ρ S with
  | bad=>rw [hf] at q;exact q.elim
  | exc c S1 =>
   rw [hf] at q;simp only [zag,hf,Out.bind];exact q
  | ok d S1 =>
   rw [hf] at q;simp only [zag,hf,Out.bind];intro vs w' R' F' sh;dsimp only [Out.bind] at q
   cases hg:g l d with
   | none=>rw [hg] at q;exact q.elim
   | some r =>
    rw [hg] at q;obtain ⟨n,rfl⟩:=hgb l d r hg;obtain ⟨a',xs',e1',h2',t'⟩:=R'.lstAny hl;rw [e1] at e1';cases e1'
    cases sh with
    | cons h1 hn =>
     cases hn;exact ⟨a,xs',l,w',d,_,n,rfl,rfl,rfl,h2',t',h1.top R',hg,q _ w' R' F' (.int _)⟩
 ·rw [hb] at q;exact q.elim
end
noncomputable def zhQ(g:Str->Str->Option Bool)(C:Str):D->Option D
 | .exc c=>(g c C).map .bl
 | _=>none
noncomputable def clsV(cl:Cf)(C:Str):Value:=if C = "ValueError" then .type "ValueError" else .ref (cl C)
section
variable{X:Cx}{cl:Cf}{E:St->XK}{own:Bool}{e:Expr}{f fe:Fe}{pos pos':Pos}
def Shd.excI{w:Wd}{v:V}{c:Str}(h:Shd cl w v (.exc c)):∃a ob,v=.ref a/\w.H a=some (.frz ob (.own a))/\ob.cls=.ref (cl c):=by
 cases h with
 | exc h1 _ h2=>exact ⟨_,_,rfl,h1,h2⟩
theorem TopV.excI{w:Wd}{v:V}{c:Str}(h:TopV cl w v (.exc c)):∃a ob,v=.ref a/\w.H a=some (.frz ob (.own a))/\ob.cls=.ref (cl c):=by
 cases h with
 | sh h=>exact h.excI
 | ow _ t=>cases t
theorem zef:bootBuiltins "ValueError" = some (.type "ValueError"):=by decide +kernel
def zgO{g:Str->Str->Option Bool}{C:Str}{vC:V}{p p2:Pos}(hg:Gl X "isinstance")(hm:X.mg "isinstance" = none)(hC:PE X (.Name C p2) (tC vC))(hv:∀u,zaI vC u->u=clsV cl C)
  (hk:∀c b,g c C=some b->PySem.W.ExcCls X.K (cl c)/\PySem.W.kitOne X.K (.ref (cl c)) (clsV cl C)=some b) (hp:zaB e=true) (he:PE X e (tH cl E f)) :
  PE X (.Call (.Name "isinstance" p) [e,.Name C p2] [] pos) (tE cl E (eUn (zhQ g C) f)):=by
 refine PE.imp (zcq zhZ hg hm zfJ (zat he (zat hC zaV rfl) (zap hp)) (he:=zap hp) (hpl:=rfl)) ?_;rintro σ H Q ⟨B,w,ρ,S,rfl,R,q⟩;refine ⟨B,w,ρ,S,rfl,R,?_⟩;unfold eUn at q
 cases hf:f ρ S with
 | bad=>rwa [hf] at q
 | exc c S1=>rwa [hf] at q
 | ok d S1 =>
  rw [hf] at q;intro v w1 R1 F1 h1;dsimp only [Out.bind] at q
  cases d with
  | exc c =>
   dsimp only [zhQ] at q
   cases hb:g c C with
   | none=>rw [hb] at q;exact q.elim
   | some b =>
    rw [hb] at q;obtain ⟨k1,k2⟩:=hk c b hb;obtain ⟨a,ob,rfl,h2,h3⟩:=(h1.top R1).excI;exact ⟨a,_,ob,vC,_,b,rfl,h2,h3,k1,hv,k2,q _ w1 R1 F1 (.bl _)⟩
  | _=>exact q.elim
noncomputable def OpN(X:Cx)(cl:Cf)(op:Value->Value->Sem Value)(g:D->D->Option D):Prop:=OpR X op fun x y H Q=>∃w d e r,w.H=H/\TopV cl w x d/\TopV cl w y e/\g d e=some r/\∀p o w',Grow w w'->w'.H p=none->Top cl w' o r->Q (.ref p) (upd w'.H p o)
def zwg{a b:Expr}{h:Fe}{gg:D->D->Option D}{r2:R2}(hr:∀x y H Q,(∃w d e r,w.H=H/\TopV cl w x d/\TopV cl w y e/\gg d e=some r/\∀p o w',Grow w w'->w'.H p=none->Top cl w' o r->Q (.ref p) (upd w'.H p o))->r2 x y H Q)(σ:St)(H:Hp)(Q:VK)(q:tN cl E (zal gg f h) σ H Q):tOp r2 (tH cl E f) (tH cl E h) σ H Q:=by
 obtain ⟨B,w,ρ,S,rfl,R,q⟩:=q;refine ⟨B,w,ρ,S,rfl,R,?_⟩;unfold zal at q
 cases hf:f ρ S with
 | bad=>rwa [hf] at q
 | exc c S1=>rwa [hf] at q
 | ok d S1 =>
  rw [hf] at q;intro v w1 R1 F1 h1;refine ⟨B,w1,ρ,S1,rfl,R1,?_⟩;dsimp only [Out.bind] at q
  cases hh:h ρ S1 with
  | bad=>rwa [hh] at q
  | exc c S2=>rw [hh] at q;exact fun w2 R2 F2=>q w2 R2 (F1.trans F2)
  | ok e S2 =>
   rw [hh] at q;intro y w2 R2 F2 h2;dsimp only at q
   cases hg:gg d e with
   | none=>rw [hg] at q;exact q.elim
   | some r =>
    rw [hg] at q;exact hr _ _ _ _ ⟨w2,d,e,r,rfl,(h1.up F2).top R2,h2.top R2,hg,fun p o w' gr hp t=>q p o w' (R2.grow gr) (F1.trans (F2.trans gr.fut)) hp t⟩
noncomputable def zdo:D->D->Option D
 | .lst a,.int j=>if decide (0<=j/\j<=1000/\a.length<=1000) then some (.lst (List.replicate j.toNat a).flatten) else none
 | _,_=>none
def znN:OpN X cl (binaryOp .Mult) zdo:=by
 intro pins s σ H x y v u Q I rx ry h;obtain ⟨w,d,e,r,rfl,hx,hy,hg,q⟩:=h;unfold zdo at hg;split at hg
 ·rename_i a j;split at hg
  ·rename_i hz;cases hg;have hz':=yal hz;obtain ⟨p,xs,rfl,ep,rs⟩:=hx.lstI;obtain rfl:=hy.intI;have hl:=rs.length;refine zmf pins s σ w.H _ _ v u Q I rx ry ⟨p,j,xs,rfl,rfl,ep,by omega,by omega,?_,fun l hl=>q l _ w (Grow.refl _) hl (.lst (rs.flat _))⟩;refine yas (Nat.mul_le_mul (show xs.length<=1000 by omega) (show j.toNat<=1000 by omega)) (by decide)
  ·cases hg
 ·cases hg
def znl(ha:PE X a (tH cl E f))(hb:PE X b (tH cl E h)):PE X (.BinOp a .Mult b pos) (tN cl E (zal zdo f h)) :=
 PE.imp (zpT znN ha hb) (zwg (a:=a) (b:=b) fun _ _ _ _ z=>z)
noncomputable def zoc:Expr->Bool | .List _ _=>true | _=>false
noncomputable def zqM:Operator->Bool | .Mult=>true | _=>false
def znp(i:Nat)(fi fe:Fe):Fs:=fun ρ S=>match ρ[i]? with
 | some (some (true,.lst l))=>(match fe ρ S with
  | .ok d S1=>(match fi ρ S1 with
   | .ok (.int n) S2=>(match ixN l.length n with | some k=>.nx (ρ.set i (some (true,.lst (l.set k d)))) S2 | none=>.bad)
   | .ok _ _=>.bad
   | .exc c S2=>.ex c ρ S2 | .bad=>.bad)
  | .exc c S1=>.ex c ρ S1 | .bad=>.bad)
 | _=>.bad
def zmX{i:Nat}{x:Str}{ix:Expr}{fi:Fe}{p2 p3:Pos}(hN:X.N[i]?=some x)(hv:Vis X.env.scope x)(hd:(x == ("__debug__":Str))=false)(hcd:(x == ("__classdict__":Str))=false)
  (he:PE X e (tE cl E fe)) (hi:PE X ix (tH cl E fi)) (sw1:swapsWithSole [.Subscript (.Name x p2) ix p3] e pos.line X.env=pure false) (sw2:swappedStores [.Subscript (.Name x p2) ix p3] e X.env=pure none)
  (ha:∀v,assign (.Subscript (.Name x p2) ix p3) X.env v=(do
   let ov ← holding [v] (eval (.Name x p2) X.env)
   let iv ← holding [v,ov] (eval ix X.env)
   standAt p3
   holding [v,ov,iv] (setItem ov iv v)
   release [v,ov,iv] [])):PS X (.Assign [.Subscript (.Name x p2) ix p3] e pos) (tS cl E own (znp i fi fe)):=by
 refine PS.imp (zd0 he (ziW (zaU hN hv hd hcd) hi zkt ha) sw1 sw2 rfl) ?_;rintro De σ H ⟨B,w,ρ,S,rfl,R,q⟩;refine ⟨B,w,ρ,S,rfl,R,?_⟩;unfold znp at q;split at q
 ·rename_i l hl
  cases hf:fe ρ S with
  | bad=>rwa [hf] at q
  | exc c S1=>rw [hf] at q;exact fun w' R' F'=>q σ w' R' F'
  | ok d S1 =>
   rw [hf] at q;intro v w1 R1 F1 h1;dsimp only at q;obtain ⟨a,xs,e1,h1',h2',t'⟩:=R1.list hl;refine ⟨_,e1,B,w1,ρ,S1,rfl,R1,?_⟩
   cases hfi:fi ρ S1 with
   | bad=>rwa [hfi] at q
   | exc c S2=>rw [hfi] at q;exact fun w' R' F'=>q σ w' R' (F1.trans F')
   | ok di S2 =>
    rw [hfi] at q;intro vi w2 R2 F2 h2
    cases di with
    | int n =>
     dsimp only at q;split at q
     ·rename_i k hk;obtain rfl:=(h2.top R2).intI;obtain ⟨a',xs',e1',g1,g2,t2⟩:=R2.list hl;rw [e1] at e1';cases e1';refine ⟨a,xs',n,k,rfl,rfl,g2,by rw [t2.length];exact hk,?_⟩;exact q σ (w2.mut a (.lst (xs'.set k v))) (R2.mut (d0:=.non) e1 g1 (.lst (t2.set (h1.up F2) k))) (F1.trans (F2.trans (zbe (by rw [g1];exact yat _))))
     ·exact q.elim
    | _=>exact q.elim
 ·exact q.elim
end
end S2
namespace PySem.F
def zdl:Manifest.owners.lookup (String.ofList ['d','e','s','r','e','v','e','r'].reverse)=some Manifest.sig_reversed:=by kernel_rfl
def zaT:Slot "reversed" "__next__" "reversed.__next__" :=
 .of (owner:="reversed") (n:="__next__") (by rw [ybI,ya6];kernel_rfl) (by decide +kernel) (by decide +kernel) (by decide +kernel)
  (by first | exact .inl (by decide +kernel) | exact .inr (by decide +kernel)) (by rw [ybq];kernel_rfl)
def zca:entryFor table "reversed.__next__" = some Builtin.«reversed.__next__»:=entryFor_of_tree (by kernel_rfl)
def zbV(a:Value):argsOk "reversed.__next__" ⟨[a],[]⟩:=by
 unfold argsOk;rw [ycS (id:="reversed.__next__") (n:=['_','_','t','x','e','n','_','_']) (o:=['d','e','s','r','e','v','e','r']) (by kernel_rfl) zdl];kernel_rfl
def zco:Slot "reversed" "__iter__" "reversed.__iter__" :=
 .of (owner:="reversed") (n:="__iter__") (by rw [ybI,ya6];kernel_rfl) (by decide +kernel) (by decide +kernel) (by decide +kernel)
  (by first | exact .inl (by decide +kernel) | exact .inr (by decide +kernel)) (by rw [ybq];kernel_rfl)
def zdK(a:Value):argsOk "reversed.__iter__" ⟨[a],[]⟩:=by
 unfold argsOk;rw [ycS (id:="reversed.__iter__") (n:=['_','_','r','e','t','i','_','_']) (o:=['d','e','s','r','e','v','e','r']) (by kernel_rfl) zdl];kernel_rfl
def zbm:typeLookup (.type "tuple") "__reversed__" = pure none:=by rw [ybI,ya6];kernel_rfl
def zek:Slot "reversed" "__init__" "object.__init__" :=
 .of (owner:="object") (n:="__init__") (by rw [ybI,ya6];kernel_rfl) (by decide +kernel) (by decide +kernel) (by decide +kernel)
  (by first | exact .inl (by decide +kernel) | exact .inr (by decide +kernel)) (by rw [ybq];kernel_rfl)
def zdH:TypeCalled "reversed" "reversed.__new__" "object.__init__" :=
 ⟨by decide +kernel,by decide +kernel,⟨_,_,mro_reversed⟩,madeBy_type mro_reversed lookup_reversed_new (by decide +kernel),by decide +kernel,by rw [ybq];kernel_rfl,zek⟩
end PySem.F
namespace L2
open PySem PySem.Spec PyProof.Rows
noncomputable def zl6(l:Addr)(i:Int):Obj:={ cls:=.type "reversed",data:=.fields #[.ref l,rawInt i] }
def zcu(l:Addr)(xs:Array Value) :
  Meets (Builtin.«reversed.__new__» ⟨[.type "reversed",.ref l],[]⟩) (fun _ R s=>IsTup s.heap l xs/\xs.size<=sizeLine ∧
   R (.ok (.ret (.ref s.heap.objs.size))) { s with heap:=s.heap.push (zl6 l ((xs.size:Int)-1)),toks:=s.toks+1+1 }) :=
 .of_wp fun prog w A R s h=>by
  obtain ⟨hp,g,d,tk,os⟩:=s;obtain ⟨hl,hz,h⟩:=h;have hsub:=F.sub_reversed_self
  have hT:(Shared.mk hp g d tk os).TypeIs (.ref l) "tuple":=by obtain ⟨o,ho,hc,_⟩:=hl;exact ⟨o,ho,hc⟩
  have hno:=F.zbm
  have hdc:isSubtype (.type "tuple") (.type "dict")=pure false:=by rw [ybq];kernel_rfl
  have hfit:(xs.size:Int)<9223372036854775808:=by
   have:sizeLine<9223372036854775808:=by decide
   omega
  unfold Builtin.«reversed.__new__»;refine yaa (yba (newClass_reversed _) ?_)
  try dsimp only
  refine yaa (yba (a:=()) (by first | rfl | kernel_rfl) ?_);refine yaa (yba (a:=()) (by first | rfl | kernel_rfl) ?_)
  try dsimp only
  refine yaa (ybH hT F.zbm ?_)
  try dsimp only
  refine yaa ?_;show wpAny _ _ (isInstance (.ref l) (.type "dict") >>= _) _ _ _;refine yaa (ybl hT hdc ?_);simp only [yaA,ybs];refine yaa (ybH hT F.slot_tuple_getitem.lookup ?_);dsimp only;rw [if_pos (by decide)];refine yae ?_;simp only [yb8,yaA,ybs];refine yaa (len_tuple hl hfit ?_)
  wp_walk
  exact ⟨_,rfl,h⟩
section
variable{prog:Program}{w:World}{A:Around}{E:Z5}{s:Shared}
noncomputable abbrev IsRev(h:Heap)(it l:Addr)(i:Int):Prop:=h.get? it=some (zl6 l i)
def zcb{l:Addr}{xs:Array Value}{Q:Z5}(hl:IsTup s.heap l xs)(hz:xs.size<=sizeLine)
  (h:Q (.ref s.heap.objs.size) { s with heap:=s.heap.push (zl6 l ((xs.size:Int)-1)),toks:=s.toks+1+1 }):wpAny (model prog w) A (call (.type "reversed") [.ref l]) Q E s:=by
 refine callType_new F.zdH (by decide) (F.typeCall_reversed_1 _) (F.newCall_reversed_1 _) (fun obj=>ycR obj _) F.entry_reversed_new (zcu l xs) ⟨hl,hz,?_⟩;exact ⟨⟨_,yag _ rfl,rfl⟩,h⟩
def zcL{it l:Addr}{i:Int}{Q:Z5}(hit:IsRev s.heap it l i)(h:Q (.ref it) s):wpAny (model prog w) A (pyIter (.ref it)) Q E s:=by
 have hT:s.TypeIs (.ref it) "reversed":=⟨_,hit,rfl⟩;refine ydj hT F.zco (yaI F.zco hT (show entryFor table "reversed.__iter__" = some Builtin.«dict_keyiterator.__iter__» from entryFor_alias (id':="dict_keyiterator.__iter__") (by kernel_rfl) (by first | rfl | decide +kernel | (unfold String.splitOn;simp +decide [String.splitOnAux])) (by decide +kernel) (by kernel_rfl)) ?_ (F.zdK _));show wpAny _ _ (ret (.ref it)) _ _ s;exact yae ⟨_,rfl,"reversed",_,hT,F.zaT.lookup,h⟩
def zcs{it l:Addr}{i:Nat}{xs:Array Value}{x:Value}{Q:Option Value->Shared->Prop}(hit:IsRev s.heap it l (i:Int))(hl:IsTup s.heap l xs)(hz:xs.size<=sizeLine)(hx:xs[i]?=some x)
  (hQ:∀h' tk,IsRev h' it l ((i:Int)-1)->Heap.SameBut it s.heap h'->Q (some x) { s with heap:=h',toks:=tk }):wpAny (model prog w) A (pyNext (.ref it)) Q E s:=by
 have hT:s.TypeIs (.ref it) "reversed":=⟨_,hit,rfl⟩
 have hTl:s.TypeIs (.ref l) "tuple":=by obtain ⟨o,ho,hc,_⟩:=hl;exact ⟨o,ho,hc⟩
 unfold pyNext
 refine yaa (ybN (yaM (name:=Str.ofString "__next__") hT F.zaT
  (yaI F.zaT hT F.zca ?_ (F.zbV _))))
 unfold Builtin.«reversed.__next__»;refine yaa (yba (a:=(Value.ref it,[])) rfl ?_)
 try dsimp only
 refine yaa (ya2 hit rfl (x:=.ref l) rfl ?_);refine yaa (ya2 hit rfl (x:=rawInt (i:Int)) rfl ?_);show wpAny _ _ (if (i:Int)<0 then _ else _) _ _ s;rw [if_neg (by omega)];have hi:i<xs.size:=(ybK.mp hx).1
 have hsl:sizeLine<9223372036854775808:=by decide
 refine yaa (ybH hTl F.slot_tuple_getitem.lookup ?_);simp only [Option.isNone_some,yaA,ybs];refine yaa (wpAny_mkInt ?_);refine yaa (ybN (getItem_tuple (s:={ s with toks:=s.toks+1 }) (j:=i) (x:=x) hl (by omega) (by omega) ?_ hx ?_))
 ·rw [seqIndex?];simp;omega
 dsimp only;refine yaa (ya2 (s:={ s with toks:=s.toks+1 }) hit rfl (x:=rawInt (i:Int)) rfl ?_);refine yaa (ybu (s:={ s with toks:=s.toks+1 }) hit (by simp) fun h' hz' hs'=>?_);exact yae ⟨x,rfl,yae (hQ h' _ hz' hs')⟩
def zcZ{it l:Addr}{Q:Option Value->Shared->Prop}(hh:A.handled=none)(hit:IsRev s.heap it l (-1))
  (hQ:∀h' tk,Heap.ExtBut it s.heap h'->Q none { s with heap:=h',toks:=tk }):wpAny (model prog w) A (pyNext (.ref it)) Q E s:=by
 have hT:s.TypeIs (.ref it) "reversed":=⟨_,hit,rfl⟩;unfold pyNext
 refine yaa (ybN (yaM (name:=Str.ofString "__next__") hT F.zaT
  (yaI F.zaT hT F.zca ?_ (F.zbV _))))
 unfold Builtin.«reversed.__next__»;refine yaa (yba (a:=(Value.ref it,[])) rfl ?_)
 try dsimp only
 refine yaa (ya2 hit rfl (x:=.ref l) rfl ?_);refine yaa (ya2 hit rfl (x:=rawInt (-1)) rfl ?_);show wpAny _ _ (if (-1:Int)<0 then _ else _) _ _ s;rw [if_pos (by decide)];refine yaa (yb6 ?_);refine yaa ?_;show wpAny _ _ (setField (.ref it) 1 (rawInt (-1)) >>= _) _ _ s;refine yaa (ybu hit (by simp) fun h1 hz1 hs1=>?_);refine ybu hz1 (by simp) fun h2 hz2 hs2=>?_
 have hx2:Heap.ExtBut it s.heap h2:=fun b o hb e=>hs2.extBut b o hb (hs1.extBut b o hb e)
 refine yaa ?_;show wpAny _ _ (newExc (.type "StopIteration") [] >>= _) _ _ _;refine yaa ?_;simp only [newExc,newTuple];refine yaa (yaK ?_ (by size_fits));refine yaa (m:=firstArgMember _ _) (yba (a:=Value.none) (by first | rfl | (simp only [firstArgMember];rfl)) ?_);refine yaK ?_ (by size_fits);simp only [raiseNew];refine yaa (wpAny_handled ?_)
 first | rw [show A.in1.handled=none from hh] | rw [hh]
 refine yaa (yae (wpAny_throw ?_));refine yaa (ybl (T:="StopIteration") (b:=true) ⟨_,yag _ rfl,rfl⟩ ydc ?_);exact yae (hQ _ _ ((hx2.push _).push _))
end
noncomputable def Itv(K:PySem.W.Frag)(a:Addr)(n:Nat):It :=
 ⟨fun i H=>∃xs x,SqT K H a xs/\xs.length=n/\xs.reverse[i]?=some x,fun i H x H'=>H'=H/\∀xs,SqT K H a xs->xs.reverse[i]?=some x,fun i H=>∃xs,SqT K H a xs/\xs.length=n/\n<=i⟩
def zkl{P:Program}{w:World}{K:PySem.W.Frag}{tg:Expr}(a it:Addr)(n:Nat):Turn P w K tg (Itv K a n) [it] it (fun i h=>i<=n/\IsRev h it a ((n:Int)-1-(i:Int))) where
 mem:=by simp
 obj:=fun i h st b hb=>by
  have e:b=it:=by simpa using hb
  subst e;exact ⟨_,st.2,fun v z=>by cases z⟩
 keep:=fun i h h' st k=>⟨st.1,k it (by simp) _ st.2⟩
 item:=by
  intro X hP hw hK hc i pins s σ H E I hf st hg;subst hP hw hK;obtain ⟨xs,x,hq,hn,hx⟩:=hg;obtain ⟨its,rv,p,hz⟩:=I.tuple hq;have hl:=rv.length
  have hi:i<xs.length:=by have:=(yai.mp hx).1;simpa using this
  have hx':xs[n-1-i]?=some x:=by
   rw [ycL hi] at hx;rw [<-hn];exact hx
  obtain ⟨u,hu,ru⟩:=rv.get hx';obtain ⟨f0,f1,f2,f3,f4,f5⟩:=hf it (by simp)
  have e1:(n:Int)-1-(i:Int)=((n-1-i:Nat):Int):=by omega
  have st2:=st.2;rw [e1] at st2;refine zcs st2 p (by rw [yaf];omega) (x:=u) (by simpa using hu) fun h' tk st' sb=>?_
  have I1:Inv X pins σ H { s with heap:=h',toks:=tk }:=I.turned (t':=tk) (fun b o hb e=>(sb.2 b hb).trans e) f0 f1 f3 f4 f5
  have e2:((n-1-i:Nat):Int)-1=(n:Int)-1-((i+1:Nat):Int):=by omega
  rw [e2] at st';exact ⟨u,rfl,zjB (s:={ s with heap:=h',toks:=tk }) st' rfl rfl (by decide) ⟨x,H,I1,ru,⟨rfl,fun ys hy=>by rw [I.tuple_inj hy hq];exact hx⟩,⟨by omega,st'⟩,fun b hb=>(hf b hb).1⟩⟩
 done:=by
  intro X hP hw hK hc i pins s σ H E I hf st hg;subst hP hw hK;obtain ⟨xs,hq,hn,hx⟩:=hg;obtain ⟨f0,f1,f2,f3,f4,f5⟩:=hf it (by simp);have st2:=st.2
  have hin:(n:Int)-1-(i:Int)=-1:=by have:=st.1;omega
  rw [hin] at st2;exact zcZ (I.ok.hd hc) st2 fun h' tk eb=>⟨rfl,I.turned (t':=tk) (fun b o hb e=>eb b o hb e) f0 f1 f3 f4 f5⟩
 self:=fun _ _ _ _ _ st h=>zcL st.2 h
def zhk:bootBuiltins "reversed" = some (.type "reversed"):=by decide +kernel
section
variable{X:Cx}
noncomputable def zxb(K:PySem.W.Frag)(ta:TA):TI:=fun σ H R=>ta σ H fun vs H1=>∃b xs,vs=[.ref b]/\SqT K H1 b xs/\R (Itv K b xs.length) H1
def zpR{K:PySem.W.Frag}{tg a:Expr}{ta:TA}{p pos:Pos}(hg:Gl X "reversed")(hm:X.mg "reversed" = none)(ha:PA X [a] ta)(hK:X.K=K:=by rfl)(hs:starEach [a] X.env=[(false,eval a X.env)]:=by rfl) :
  PI X tg (.Call (.Name "reversed" p) [a] [] pos) (zxb K ta):=by
 subst hK;intro pins s σ H R I h;refine Call_ (zbp I hg hm zhk (yaC (thn (ha pos pins s σ H _ I h) fun us s1 ⟨vs,H1,I1,r1,q1⟩=>?_) hs rfl));obtain ⟨b,xs,e,hq,q⟩:=q1;subst e
 cases r1 with
 | cons r rr =>
  cases rr;cases r;obtain ⟨its,rv,pl,hz⟩:=I1.tuple hq;have hl:=rv.length;refine zcb (xs:=its.toArray) pl (by rw [yaf];omega) ?_
  have g:IsRev (s1.heap.push (zl6 b ((its.toArray.size:Int)-1))) s1.heap.objs.size b ((xs.length:Int)-1-((0:Nat):Int)):=by
   rw [show (xs.length:Int)-1-((0:Nat):Int)=(its.toArray.size:Int)-1 by simp [hl]];exact yag _ rfl
  refine zcL g ?_;refine ⟨s1.heap.objs.size,[s1.heap.objs.size],_,_,H1,rfl,I1.kept (t':=s1.toks+1+1) fun c o x=>yad _ x,zkl b _ xs.length,⟨ya1 _,g⟩,fun c hb=>?_,q⟩
  have:c=s1.heap.objs.size:=by simpa using hb
  subst this;exact I1.fpOk (yah _) (I1.hok.fresh (yah _))
end
end L2
namespace PySem.F
def zbu:Slot "reversed" "__length_hint__" "reversed.__length_hint__" :=
 .of (owner:="reversed") (n:="__length_hint__") (by rw [ybI,ya6];kernel_rfl) (by decide +kernel) (by decide +kernel) (by decide +kernel)
  (by first | exact .inl (by decide +kernel) | exact .inr (by decide +kernel)) (by rw [ybq];kernel_rfl)
def zdQ:entryFor table "reversed.__length_hint__" = some Builtin.«reversed.__length_hint__»:=entryFor_of_tree (by kernel_rfl)
def zdL(a:Value):argsOk "reversed.__length_hint__" ⟨[a],[]⟩:=by
 unfold argsOk;rw [ycS (id:="reversed.__length_hint__") (n:=['_','_','t','n','i','h','_','h','t','g','n','e','l','_','_']) (o:=['d','e','s','r','e','v','e','r']) (by kernel_rfl) zdl];kernel_rfl
def zi7:typeLookup (.type "reversed") "__len__" = pure none:=by rw [ybI,ya6];kernel_rfl
end PySem.F
namespace L2
open PySem PySem.Spec PyProof.Rows
section
variable{prog:Program}{w:World}{A:Around}{E:Z5}{s:Shared}
def zeM{it l:Addr}{xs:Array Value}{Q:Z5}(hit:IsRev s.heap it l ((xs.size:Int)-1))(hl:IsTup s.heap l xs)(hz:xs.size<=sizeLine)
  (h:∀u tk,s.toks<=tk->Q (.int xs.size u) { s with toks:=tk }):wpAny (model prog w) A (call (.builtin "reversed.__length_hint__") [.ref it]) Q E s:=by
 have hT:s.TypeIs (.ref it) "reversed":=⟨_,hit,rfl⟩
 have hfit:(xs.size:Int)<9223372036854775808:=by
  have:sizeLine<9223372036854775808:=by decide
  omega
 refine yaI F.zbu hT F.zdQ ?_ (F.zdL _);unfold Builtin.«reversed.__length_hint__»;refine yaa (yba (a:=Value.ref it) rfl ?_);refine yaa (ya2 hit rfl (x:=.ref l) rfl ?_);show wpAny _ _ (if (Value.ref l == Value.none)=true then _ else _) _ _ s;rw [if_neg (show ¬ ((Value.ref l == Value.none)=true) from yaG)];refine yaa (len_tuple hl hfit ?_);refine yaa (m:=asInt? (.int xs.size (s.toks+1))) (yae ?_);dsimp only;refine yaa (ya2 (s:={ s with toks:=s.toks+1+1 }) hit rfl (x:=rawInt ((xs.size:Int)-1)) rfl ?_);show wpAny _ _ (if (xs.size:Int)<(xs.size:Int)-1+1 then _ else _) _ _ _;rw [if_neg (by omega)];refine yaa (wpAny_mkInt (yae ⟨_,rfl,?_⟩));rw [show (xs.size:Int)-1+1=xs.size by omega];exact h _ _ (by show s.toks<=s.toks+1+1+1;omega)
def zcI{I:Addr}{fp wr:List Addr}{G:Array GenState->Array GenState->Prop}{n:Nat}{P:Nat->Value->Prop}{St:Nat->Shared->Prop}{Q:List Value->Shared->Prop}
  (W:WalksS prog w A.in1 I fp wr G n P St) (hT:∀i s,St i s->s.TypeIs (.ref I) "reversed") (hst:St 0 s) (hfp:∀b∈fp,b<s.heap.objs.size) (hI:I∈fp) (h0:1<=n)
  (hhint:∀(s₁:Shared) (Q':Z5) (E':Z5),St 0 s₁->(∀u tk,s₁.toks<=tk->Q' (.int n u) { s₁ with toks:=tk })->wpAny (model prog w) A.in1 (call (.builtin "reversed.__length_hint__") [.ref I]) Q' E' s₁)
  (hQ:∀s' acc,Moved wr G s s'->ItemsOf P acc n->Q acc.toList s') (hn:n<=sizeLine):wpAny (model prog w) A (collect (.ref I)) Q E s:=by
 have hSf:s.heap.objs.size ∉ fp:=fun hm=>yaL _ (hfp _ hm)
 have hSI:s.heap.objs.size≠I:=fun e=>hSf (e ▸ hI)
 unfold collect;refine yaa (wpAny_runValue (ybr F.entry_proto_collect ?_));rw [yby F.plain_proto_collect _];show wpAny _ A.in1 (newList [] >>= fun l=>again (.builtin "list.__iadd__" ⟨[l,.ref I],[]⟩)) _ _ s;refine yaa (yaK ?_);refine yae ⟨ycT F.plain_list_iadd _,ybr F.entry_list_iadd ?_⟩;rw [yby F.plain_list_iadd _];have hst₁:=W.frame 0 s (s.heap.push { cls:=.type "list",data:=.seq ([]:List Value).toArray }) s.toks hst (yah _) fun b _ o e=>yad _ e
 have hS₁:(s.heap.push { cls:=.type "list",data:=.seq ([]:List Value).toArray }).get? s.heap.objs.size=some { cls:=.type "list",data:=.seq ([]:List Value).toArray }:=yag _ rfl
 have h1:Builtin.List.listSameRef (.ref s.heap.objs.size) (.ref I)=false:=by simp [Builtin.List.listSameRef,hSI]
 show wpAny _ A.in1 (Builtin.List.listExtendWith (.ref s.heap.objs.size) (.ref I) (.ref s.heap.objs.size)) _ _ _;unfold Builtin.List.listExtendWith;refine yaa (yb2 (hT 0 _ hst₁) ?_);rw [if_neg (by rw [h1];decide)];refine yaa (W.self 0 _ _ _ hst₁ ?_);refine yaa (ybp ?_);unfold Builtin.List.listLengthHint;refine yaa (ybH (hT 0 _ hst₁) F.zi7 ?_);show wpAny _ A.in1 (specialOf (Value.ref I) (Str.ofString "__length_hint__") >>= _) _ _ _;refine yaa (ybH (hT 0 _ hst₁) F.zbu.lookup ?_)
 (generalize hid:("reversed.__length_hint__":String)=id0;(fail_if_success (clear hid id0));wp_delta;rw [show splitId id0=some ("reversed","__length_hint__") from by subst hid;decide +kernel];subst hid)
 refine yaa (ybl (b:=true) (hT 0 _ hst₁) (by rw [ybq];kernel_rfl) ?_);show wpAny _ A.in1 (rule "list.length-hint.hint" >>= _) _ _ _;refine yaa (yb6 ?_);refine yaa (yba (F.zbu.bind _) ?_);dsimp only;refine yaa (ybN (hhint _ _ _ hst₁ fun u tk htk=>?_))
 have hsl:sizeLine<9223372036854775808:=by decide
 have ei:asInt? (.int (n:Int) u)=pure (some (n:Int)):=rfl
 have f1:Builtin.List.listFitsIndex (n:Int)=true:=by
  unfold Builtin.List.listFitsIndex;rw [yab,yaB,yaB];exact ⟨by omega,by omega⟩
 have f2:Builtin.List.listTooLong ((n:Int).toNat)=false:=by
  unfold Builtin.List.listTooLong;exact ya4 (by omega)
 simp only [ei,pure_bind,f1,f2,yb8,yaA,ybs];rw [if_neg (show ¬ (n:Int)<0 by omega)];refine yae ?_
 have f3:((n:Int) != 0)=true:=by simp;omega
 rw [f3];have hst₂:=W.frame 0 _ _ tk hst₁ htk fun b _ o e=>e
 show wpAny _ A.in1 (rule "list.extend.makes-room" >>= fun _=>Builtin.List.listTouch (.ref s.heap.objs.size) >>= fun _ =>
  again (.builtin "list.extend.loop" ⟨[.ref s.heap.objs.size,.ref I,.ref s.heap.objs.size],[]⟩)) _ _ _
 refine yaa (yb6 ?_);refine yaa ?_;show wpAny _ A.in1 (updateSeq s.heap.objs.size (·.push .none) >>= fun _=>updateSeq s.heap.objs.size (·.pop)) _ _ _;refine yaa (yc0 hS₁ rfl ?_);have hS₂:=yaY (Obj.mapSeq (·.push Value.none)) hS₁ rfl;refine yc0 hS₂ rfl ?_;have hS₃:=yaY (Obj.mapSeq (·.pop)) hS₂ rfl
 have oth:∀b o,b≠s.heap.objs.size->(s.heap.push { cls:=.type "list",data:=.seq ([]:List Value).toArray }).get? b=some o →
   (((s.heap.push { cls:=.type "list",data:=.seq ([]:List Value).toArray }).update s.heap.objs.size (Obj.mapSeq (·.push Value.none))).update s.heap.objs.size (Obj.mapSeq (·.pop))).get? b=some o :=
  fun b o hb e=>(ybZ _ _ (Ne.symm hb)).trans ((ybZ _ _ (Ne.symm hb)).trans e)
 refine yae ⟨ycT F.plain_extend_loop _,codeAny_extend_loopS W hn _ hSf _ n 0 _ _ _ rfl (ya1 _)
  (W.frame 0 ({ s with heap:=s.heap.push { cls:=.type "list",data:=.seq ([]:List Value).toArray },toks:=tk }:Shared) _ tk hst₂ (yah _) fun b hb o e=>oth b o (fun h=>hSf (h ▸ hb)) e) hS₃ (ItemsOf.nil P) fun s' acc' c' hm hS' hacc=>?_⟩
 show wpAny _ A (load s.heap.objs.size >>= _) _ _ s';refine yaa (wpAny_load hS' ?_);refine yae (hQ s' acc' (Moved.drop_new (o:={ cls:=.type "list",data:=.seq ([]:List Value).toArray }) (tk:=tk) (Moved.trans W.gtrans ((Moved.refl W.grefl).then_heap (by first | exact yah _ | exact yb3 _ | omega) fun b o hb e=>?_) hm) htk) hacc);exact oth b o (fun h=>hb (h ▸ yaE)) e
def zid(hh:A.handled=none)(I l:Addr)(hne:l≠I)(items:Array Value)(hz:items.size<=sizeLine) :
  Walks prog w A I [I,l] [I] items.size (fun i v=>items[items.size-1-i]?=some v) (fun i h=>i<=items.size/\IsRev h I l ((items.size:Int)-1-(i:Int))/\IsTup h l items) where
 sub:=fun b hb=>by simp at hb;simp [hb]
 frame:=fun _ _ _ x hk=>⟨x.1,hk I (by simp) _ x.2.1,by obtain ⟨o,ho,r⟩:=x.2.2;exact ⟨o,hk l (by simp) o ho,r⟩⟩
 item:=fun i s Q E hi x hQ=>by
  have e:(items.size:Int)-1-(i:Int)=((items.size-1-i:Nat):Int):=by omega
  have hit:=x.2.1;rw [e] at hit;have hx:items[items.size-1-i]?=some (items[items.size-1-i]'(by omega)):=yaU (by omega);refine zcs hit x.2.2 hz hx fun h' tk hit' hs'=>?_
  have e2:((items.size-1-i:Nat):Int)-1=(items.size:Int)-1-((i+1:Nat):Int):=by omega
  rw [e2] at hit';exact hQ _ h' tk hx ⟨hi,hit',by obtain ⟨o,ho,r⟩:=x.2.2;exact ⟨o,(hs'.2 l hne).trans ho,r⟩⟩ fun b o hb eo=>hs'.extBut b o (fun h=>hb (by simp [h])) eo
 done:=fun s Q E x hQ=>by
  have e:(items.size:Int)-1-(items.size:Int)=-1:=by omega
  have hit:=x.2.1;rw [e] at hit;exact zcZ hh hit fun h' tk he'=>hQ h' tk fun b o hb eo=>he' b o (fun h=>hb (by simp [h])) eo
 self:=fun _ _ _ _ x hQ=>zcL x.2.1 hQ
def zcB{I:Addr}{fp wr:List Addr}{G:Array GenState->Array GenState->Prop}{n:Nat}{P:Nat->Value->Prop}{St:Nat->Shared->Prop}{Q₁:Z5}(W:WalksS prog w A.in1.in1 I fp wr G n P St)(hT:∀i s,St i s->s.TypeIs (.ref I) "reversed")(hst:St 0 s)(hfp:∀b∈fp,b<s.heap.objs.size)(hI:I∈fp)(h0:1<=n)
  (hhint:∀(s₁:Shared) (Q':Z5) (E':Z5),St 0 s₁->(∀u tk,s₁.toks<=tk->Q' (.int n u) { s₁ with toks:=tk })->wpAny (model prog w) A.in1.in1 (call (.builtin "reversed.__length_hint__") [.ref I]) Q' E' s₁)
  (h:∀s' acc,Moved wr G s s'->ItemsOf P acc n->Q₁ (.ref s'.heap.objs.size) { s' with heap:=s'.heap.push { cls:=.type "tuple",data:=.seq acc } }) (hsz:n<=sizeLine) :
  codeAny (model prog w) A (.call (.builtin "tuple.__new__") ⟨[.type "tuple",.ref I],[]⟩) (wants Q₁ E) s:=by
 refine yc2 ?_;show wpAny _ A.in1 (do checkBuiltinCall "tuple.__new__" ⟨[.type "tuple",.ref I],[]⟩;again (.builtin "tuple.__new__" ⟨[.type "tuple",.ref I],[]⟩)) _ _ s;refine yaa (yba (F.newCall_tuple_1 _) (yae ⟨ycT F.plain_tuple_new _,ybr F.entry_tuple_new ?_⟩));rw [yby F.plain_tuple_new _];have hsub:=sub_tuple_self;have hinit:=init_tuple_lookup;have hmh:=madeHere_tuple;have hTI:=hT 0 s hst
 wp_walk using yb2 hTI,zcI W hT hst hfp hI h0 hhint (hn:=hsz)
 intro s' acc hm hacc;show wpAny _ _ (Builtin.Tuple.tupleExact acc.toList.toArray >>= fun v=>ret v) _ _ _;unfold Builtin.Tuple.tupleExact;refine yaa (yaK ?_ (by show acc.toList.toArray.size<=sizeLine;simp only [Array.toArray_toList];rw [hacc.1];exact hsz));refine yae ?_
 have e:acc.toList.toArray=acc:=by simp
 rw [e];exact h s' acc hm hacc
def zdS{I:Addr}{fp wr:List Addr}{G:Array GenState->Array GenState->Prop}{n:Nat}{P:Nat->Value->Prop}{St:Nat->Shared->Prop}{Q:Z5}(W:WalksS prog w A.in1.in1.in1 I fp wr G n P St)(hT:∀i s,St i s->s.TypeIs (.ref I) "reversed")(hst:St 0 s)(hfp:∀b∈fp,b<s.heap.objs.size)(hI:I∈fp)(h0:1<=n)
  (hhint:∀(s₁:Shared) (Q':Z5) (E':Z5),St 0 s₁->(∀u tk,s₁.toks<=tk->Q' (.int n u) { s₁ with toks:=tk })->wpAny (model prog w) A.in1.in1.in1 (call (.builtin "reversed.__length_hint__") [.ref I]) Q' E' s₁)
  (hQ:∀s' acc,Moved wr G s s'->ItemsOf P acc n->Q (.ref s'.heap.objs.size) { s' with heap:=s'.heap.push { cls:=.type "tuple",data:=.seq acc } }) (hsz:n<=sizeLine) :
  wpAny (model prog w) A (call (.type "tuple") [.ref I]) Q E s:=by
 refine callType_codes (Q₁:=fun obj s₁=>s₁.TypeIs obj "tuple" /\ Q obj s₁) F.called_tuple (F.typeCall_tuple_1 _) F.entry_object_init
  (zcB (hsz:=hsz) W hT hst hfp hI h0 hhint fun s' acc hm hacc=>⟨⟨_,yag _ rfl,rfl⟩,hQ s' acc hm hacc⟩) fun obj s₁ h₁=>?_
 exact ⟨h₁.1,ycR obj _,object_init_meets F.called_tuple.init.lookup F.called_tuple.made (by decide) prog w A.in1 _ s₁ ⟨h₁.1,rfl,h₁.2⟩⟩
end
section
variable{X:Cx}
def zlI:bootBuiltins "tuple" = some (.type "tuple"):=by decide +kernel
def zk8{wr:List Addr}{s s':Shared}(m:Moved wr (fun a b=>b=a) s s'):s'={ s with heap:=s'.heap,toks:=s'.toks }:=by
 obtain ⟨hp,g,d,tk,os⟩:=s;obtain ⟨hp',g',d',tk',os'⟩:=s';have h1:g'=g:=m.gens;have h2:d'=d:=m.drawn;have h3:os'=os:=m.os;subst h1 h2 h3;rfl
def ziX{a:Expr}{ta:TA}{p p2 pos pos2:Pos}(hc:X.calm=true)(hg:Gl X "tuple")(hm:X.mg "tuple" = none)(hg2:Gl X "reversed")(hm2:X.mg "reversed" = none)(ha:PA X [a] ta)(hs:starEach [a] X.env=[(false,eval a X.env)]) :
  PE X (.Call (.Name "tuple" p) [.Call (.Name "reversed" p2) [a] [] pos2] [] pos) (fun σ H Q=>ta σ H fun vs H1=>∃b xs,vs=[.ref b]/\SqT X.K H1 b xs/\1<=xs.length/\∀p,H1 p=none->Q (.ref p) (upd H1 p (.tup xs.reverse))):=by
 intro pins s σ H Q I h;refine ya9 (zbp I hg hm zlI ?_ (by decide) (by decide));refine yaC ?_ rfl rfl;show wpAny _ _ (spliced ((false,eval (.Call (.Name "reversed" p2) [a] [] pos2) X.env)::[])) _ _ s;refine yco ?_;refine Call_ (zbp I hg2 hm2 zhk (yaC (thn (ha pos2 pins s σ H _ I h) fun us s1 ⟨vs,H1,I1,r1,q1⟩=>?_) hs rfl));obtain ⟨b,xs,e,hq,h1,q⟩:=q1;subst e
 cases r1 with
 | cons r rr =>
  cases rr;cases r;obtain ⟨its,rv,pl,hz⟩:=I1.tuple hq;have hl:=rv.length;refine zcb (xs:=its.toArray) pl (by rw [yaf];omega) ?_;refine yde ?_;have hblt:b<s1.heap.objs.size:=pl.lt;have hne:b≠s1.heap.objs.size:=yap hblt;have fr:=I1.fpOk (yah _) (I1.hok.fresh (yah _));obtain ⟨f0,f1,f2,f3,f4,f5⟩:=fr;have I2:Inv X pins σ H1 { s1 with heap:=s1.heap.push (zl6 b ((its.toArray.size:Int)-1)),toks:=s1.toks+1+1 }:=I1.kept (t':=s1.toks+1+1) fun c o x=>yad _ x
  have g:IsRev (s1.heap.push (zl6 b ((its.toArray.size:Int)-1))) s1.heap.objs.size b ((its.toArray.size:Int)-1):=yag _ rfl
  have pl2:IsTup (s1.heap.push (zl6 b ((its.toArray.size:Int)-1))) b its.toArray:=by obtain ⟨o,ho,c⟩:=pl;exact ⟨o,yad _ ho,c⟩
  have hsz:its.toArray.size<=sizeLine:=by rw [yaf];omega
  refine zdS (I:=s1.heap.objs.size) (zid (A:=X.A.in1.in1.in1) (I1.ok.hd hc) s1.heap.objs.size b hne its.toArray hsz).toS (fun i s st=>⟨_,st.2.1,rfl⟩) ⟨ya1 _,by simpa using g,pl2⟩ ?_ (by simp) (by rw [yaf];omega) (fun s₁ Q' E' st hQ=>zeM (by simpa using st.2.1) st.2.2 hsz hQ) (fun s' acc mv ho=>?_) hsz
  ·intro c hcm
   have hs2:(s1.heap.push (zl6 b ((its.toArray.size:Int)-1))).objs.size=s1.heap.objs.size+1:=by simp [Heap.push]
   show c<(s1.heap.push _).objs.size;rw [hs2];simp at hcm
   rcases hcm with rfl | rfl
   ·exact ybj _
   ·exact ybe hblt
  ·have I3:Inv X pins σ H1 s':=by
    rw [zk8 mv];exact I2.turned (t':=s'.toks) (fun c o hcn e=>mv.heap c o (by simpa using hcn) e) f0 f1 f3 f4 f5
   have hacc:acc.toList=its.reverse:=by
    have hsz':acc.size=its.length:=by rw [ho.1,yaf]
    apply ybS;intro i
    by_cases hi:i<its.length
    ·have e0:acc[i]?=some (acc[i]'(by omega)):=yaU (by omega);have e1:=ho.2 i _ e0;rw [ycL hi,yaZ,e0];simpa using e1.symm
    ·rw [ybf (by simp;omega),ybf (by simp;omega)]
   have I4:Inv X pins σ (upd H1 s'.heap.objs.size (.tup xs.reverse)) { s' with heap:=s'.heap.push { cls:=.type "tuple",data:=.seq acc } } :=
    I3.laid (t':=s'.toks) (fun c o x=>yad _ x) (yah _) (show zaX X.prog X.w _ _ _ (.tup xs.reverse) from ⟨by rw [ybT];exact hz,its.reverse,rv.reverse,by rw [<-hacc,Array.toArray_toList];exact zkh.new _ _⟩)
   exact ⟨.ref s'.heap.objs.size,_,I4,rfl,q _ (I3.hok.fresh (yah _))⟩
end
end L2
namespace S2
open PySem PySem.Spec PyProof.Rows L2
section
variable{X:Cx}{cl:Cf}{E:St->XK}{e tg:Expr}{f:Fe}{pos pos':Pos}
def ztt(f:Fe):Fi:=fun ρ S=>(zag [f] ρ S).bind fun ds S1=>match ds with | [.tup l]=>.ok l.reverse S1 | _=>.bad
def zqI{K:PySem.W.Frag}{w:Wd}{a:Addr}{xs:List V}{l:List D}(hS:∀w',Fut w w'->SqT K w'.H a xs)(r:Shds cl w xs l):ItOk cl w (Itv K a xs.length) l.reverse:=by
 have hl:=r.length;have rr:=r.rev;refine ⟨fun w1 F1 i hi=>⟨xs,xs.reverse[i]'(by rw [ybT] at hi ⊢;omega),hS w1 F1,rfl,yac (by rw [ybT] at hi ⊢;omega)⟩,fun w1 F1=>⟨xs,hS w1 F1,rfl,by rw [ybT];omega⟩,fun w1 F1 i d x H1 hd y=>?_⟩;obtain ⟨rfl,hy⟩:=y;obtain ⟨d',e1,e2⟩:=rr.get (hy xs (hS w1 F1));rw [hd] at e1;cases e1;exact ⟨w1,rfl,Grow.refl _,e2.up F1⟩
def zpn{p:Pos}(hK:X.K=cl.K)(hg:Gl X "reversed")(hm:X.mg "reversed" = none)(ha:PA X [e] (tAs cl E [f]))(hs:starEach [e] X.env=[(false,eval e X.env)]):PI X tg (.Call (.Name "reversed" p) [e] [] pos) (tI cl E (ztt f)):=by
 intro pins s σ H R' I q;obtain ⟨B,w,ρ,S,rfl,R,q⟩:=q;unfold ztt at q;refine zpR (tg:=tg) (p:=p) (pos:=pos) hg hm ha rfl hs pins s σ w.H R' I ⟨B,w,ρ,S,rfl,R,?_⟩
 cases hf:zag [f] ρ S with
 | bad=>rw [hf] at q;exact q.elim
 | exc c S1=>rwa [hf] at q
 | ok ds S1 =>
  rw [hf] at q;dsimp only [Out.bind] at q;intro vs w' R2 F2 sh;split at q
  ·rename_i l' S' hm';split at hm'
   ·rename_i l;cases hm'
    cases sh with
    | cons h1 h2 =>
     cases h2
     cases h1 with
     | tup ep k r=>exact ⟨_,_,rfl,SqT.of ep,q _ w' R2 F2 (zqI (fun w1 F1=>SqT.of (F1.keep _ _ ep k).1) r)⟩
   ·cases hm'
  ·rename_i hm';split at hm'<;>cases hm'
  ·exact q.elim
noncomputable def zf0:D->Option D | .tup (d::l)=>some (.tup (d::l).reverse) | _=>none
def ziA{p p2 pos2:Pos}(hc:X.calm=true)(hg:Gl X "tuple")(hm:X.mg "tuple" = none)(hg2:Gl X "reversed")(hm2:X.mg "reversed" = none)(he:PE X e (tE cl E f))(hs:starEach [e] X.env=[(false,eval e X.env)]) :
  PE X (.Call (.Name "tuple" p) [.Call (.Name "reversed" p2) [e] [] pos2] [] pos) (tE cl E (eUn zf0 f)):=by
 refine PE.imp (ziX hc hg hm hg2 hm2 (zak he zbh hs) hs) ?_;rintro σ H Q ⟨B,w,ρ,S,rfl,R,q⟩;refine ⟨B,w,ρ,S,rfl,R,?_⟩;unfold eUn at q
 cases hf:f ρ S with
 | bad=>rw [hf] at q;exact q.elim
 | exc c S1=>rw [hf] at q;simp only [zag,hf,Out.bind];exact q
 | ok d S1 =>
  rw [hf] at q;simp only [zag,hf,Out.bind];intro vs w1 R1 F1 sh;dsimp only [Out.bind] at q;unfold zf0 at q;split at q
  ·rename_i d' S' hm';split at hm'
   ·cases hm'
    cases sh with
    | cons h1 hn =>
     cases hn
     cases h1 with
     | tup ep k r =>
      refine ⟨_,_,rfl,SqT.of ep,by rw [r.length];simp,fun p hp=>?_⟩;exact q _ (w1.add p _) (R1.grow (zah hp _)) (F1.trans (zah hp _).fut) (Shd.newT hp r.rev)
   ·cases hm'
  ·rename_i hm';split at hm'<;>cases hm'
  ·exact q.elim
end
noncomputable def zhF(f:Str)(o:Bool)(d:D):List (Str×Bool×D)->List (Str×Bool×D)
 | []=>[(f,o,d)]
 | (g,x)::r=>if g=f then (g,o,d)::r else (g,x)::zhF f o d r
def Ob.put(ob:Ob)(f:Str)(o:Bool)(d:D):Ob:=⟨ob.cls,zhF f o d ob.fs⟩
section
variable{cl:Cf}{w:Wd}{n:Nat}
def zb3.len(h:zb3 cl w n fs gs):fs.length=gs.length:=Paired.length h
def zb3.look(h:zb3 cl w n fs gs)(e:gs.lookup f=some (o,d)):∃v,fs.lookup f=some v/\zgw cl w (.fld n f) o v d:=by
 induction h with
 | nil=>cases e
 | @cons p q l1 l2 h t ih =>
  obtain ⟨h1,h2⟩:=h;obtain ⟨g,v⟩:=p;obtain ⟨g',o',d'⟩:=q;have h1':g=g':=h1;subst h1';rw [yaw] at e ⊢
  cases hb:f == g with
  | true =>
   rw [hb] at e;cases e;have:=eq_of_beq hb;subst this;exact ⟨v,rfl,h2⟩
  | false =>
   rw [hb] at e;exact ih e
def zb3.miss(h:zb3 cl w n fs gs)(e:gs.lookup f=none):fs.lookup f=none:=by
 induction h with
 | nil=>rfl
 | @cons p q l1 l2 h t ih =>
  obtain ⟨h1,h2⟩:=h;obtain ⟨g,v⟩:=p;obtain ⟨g',o',d'⟩:=q;have h1':g=g':=h1;subst h1';rw [yaw] at e ⊢
  cases hb:f == g with
  | true=>rw [hb] at e;cases e
  | false=>rw [hb] at e;exact ih e
def zb3.put(h:zb3 cl w n fs gs)(hy:zgw cl w (.fld n f) o y d):zb3 cl w n (zcg f y fs) (zhF f o d gs):=by
 induction h with
 | nil=>exact .cons ⟨rfl,hy⟩ .nil
 | @cons p q l1 l2 h t ih =>
  obtain ⟨h1,h2⟩:=h;obtain ⟨g,v⟩:=p;obtain ⟨g',o',d'⟩:=q;have h1':g=g':=h1;subst h1';show zb3 cl w n (if g=f then (g,y)::l1 else (g,v)::zcg f y l1) (if g=f then (g,o,d)::l2 else (g,o',d')::zhF f o d l2)
  by_cases hg:g=f
  ·subst hg;rw [if_pos rfl,if_pos rfl];exact .cons ⟨rfl,hy⟩ t
  ·rw [if_neg hg,if_neg hg];exact .cons ⟨rfl,h2⟩ ih
def zb3.keepBut(f:Fut w w')(k:∀a o g,g≠x->w.H a=some o->w.ow a=some (.fld n g)->w'.H a=some o/\w'.ow a=some (.fld n g))(h:zb3 cl w n fs gs)(hn:∀q∈gs,q.1=x->q.2.1=false):zb3 cl w' n fs gs:=by
 induction h with
 | nil=>exact .nil
 | @cons p q l1 l2 h t ih =>
  obtain ⟨h1,h2⟩:=h;refine .cons ⟨h1,?_⟩ (ih fun q hq=>hn q (yar _ hq))
  by_cases hx:q.1=x
  ·have ho:=hn q yaE hx;rw [ho] at h2 ⊢
   rcases h2 with ⟨_,h2⟩ | ⟨e,_⟩
   ·exact .inl ⟨rfl,Shd.up f h2⟩
   ·cases e
  ·exact h2.keep f fun a o ha hr=>k a o q.1 hx ha hr
def zb3.keepF(f:Fut w w')(k:∀a o g,w.H a=some o->w.ow a=some (.fld n g)->w'.H a=some o/\w'.ow a=some (.fld n g))(h:zb3 cl w n fs gs):zb3 cl w' n fs gs:=by
 induction h with
 | nil=>exact .nil
 | @cons p q l1 l2 h t ih=>exact .cons ⟨h.1,h.2.keep f fun a o ha hr=>k a o q.1 ha hr⟩ ih
variable{B:Base}{σ:St}{ρ:Env}{S:Sto}
def World'.atObj(W:World' cl B w S)(h:S[n]?=some ob)(e:w.mu[n]?=some a):zru cl w n a ob:=by
 obtain ⟨a',e',x⟩:=W.obj n ob h;rw [e] at e';cases e';exact x
def zgi(h:(S.set n ob)[m]?=some ob'):(m=n/\ob'=ob)\/(m≠n/\S[m]?=some ob'):=by
 by_cases e:n=m
 ·subst e
  have hlt:n<S.length:=by
   have:=(yai.mp h).1;rwa [yaD] at this
  rw [yay hlt] at h;cases h;exact .inl ⟨rfl,rfl⟩
 ·rw [yaQ e] at h;exact .inr ⟨fun z=>e z.symm,h⟩
def Rel.setf(R:Rel cl B σ w ρ S)(hn:S[n]?=some ob)(hmu:w.mu[n]?=some a)(how:w.ow a=some (.obj n))(hH:w.H a=some (.ins (cl ob.cls) dx fs))(hF:zb3 cl w n fs ob.fs)(hy:Shd cl w y d) :
  Rel cl B σ (w.mut a (.ins (cl ob.cls) dx (zcg f y fs))) ρ (S.set n (ob.put f false d))/\Fut w (w.mut a (.ins (cl ob.cls) dx (zcg f y fs))):=by
 have ff:=zbe (w:=w) (p:=a) (o:=.ins (cl ob.cls) dx (zcg f y fs)) (by rw [how];exact yat _)
 have kp:∀b u,w.H b=some u->w.ow b≠some (.obj n)->(w.mut a (.ins (cl ob.cls) dx (zcg f y fs))).H b=some u/\(w.mut a (.ins (cl ob.cls) dx (zcg f y fs))).ow b=w.ow b:=fun b u hb hne=>⟨by
  show upd w.H a _ b=_
  rw [zad (fun z=>hne (by rw [z];exact how))];exact hb,rfl⟩
 have hB:B.Fr a=none:=(R.wd.own a _ how).elim (fun z=>by cases z) fun z=>z
 refine ⟨⟨⟨fun b u h=>?_,R.wd.own,by rw [yaD];exact R.wd.len,fun m ob' h=>?_,R.wd.tab.keep ff fun P ps h1 h2=>⟨(kp P _ h1 (by rw [h2];simp)).1,(kp P _ h1 (by rw [h2];simp)).2.trans h2⟩⟩,R.len,fun i o e h=>?_⟩,ff⟩
 ·refine ⟨?_,(R.wd.fr b u h).2⟩;show upd w.H a _ b=_;rw [zad (fun z=>by rw [z,hB] at h;cases h)];exact (R.wd.fr b u h).1
 ·rcases zgi h with ⟨rfl,rfl⟩ | ⟨hne,h⟩
  ·refine ⟨a,hmu,how,dx,_,zaj,?_⟩;exact zb3.put (hF.keepF ff fun b u g hb hg=>⟨(kp b u hb (by rw [hg];exact fun z=>by cases z)).1,hg⟩) (.inl ⟨rfl,hy.up ff⟩)
  ·obtain ⟨b,e,x⟩:=R.wd.obj m ob' h;exact ⟨b,e,x.keep ff fun b u hb hm=>kp b u hb fun z=>by rw [z] at hm;exact hne hm.symm⟩
 ·obtain ⟨v,e1,x⟩:=R.slots i o e h;exact ⟨v,e1,x.keep ff fun b u hb hr=>⟨(kp b u hb (by rw [hr];exact fun z=>by cases z)).1,hr⟩⟩
def Wd.addF(w:Wd)(p:Addr)(o:HO)(n:Nat)(f:Str):Wd:=⟨upd w.H p o,fun b=>if b=p then some (.fld n f) else w.ow b,w.mu⟩
def Rel.newf(R:Rel cl B σ w ρ S)(hn:S[n]?=some ob)(hmu:w.mu[n]?=some a)(how:w.ow a=some (.obj n))(hH:w.H a=some (.ins (cl ob.cls) dx fs))(hF:zb3 cl w n fs ob.fs)(hp:w.H p=none) :
  Rel cl B σ ((w.addF p (.ext (DN cl.P cl.wo p [])) n f).mut a (.ins (cl ob.cls) dx (zcg f (.ref p) fs))) ρ (S.set n (ob.put f true (.dic [])))/\Fut w ((w.addF p (.ext (DN cl.P cl.wo p [])) n f).mut a (.ins (cl ob.cls) dx (zcg f (.ref p) fs))):=by
 have hap:a≠p:=zam hH hp
 have kp:∀b u,w.H b=some u->w.ow b≠some (.obj n)->((w.addF p (.ext (DN cl.P cl.wo p [])) n f).mut a (.ins (cl ob.cls) dx (zcg f (.ref p) fs))).H b=some u/\((w.addF p (.ext (DN cl.P cl.wo p [])) n f).mut a (.ins (cl ob.cls) dx (zcg f (.ref p) fs))).ow b=w.ow b:=fun b u hb hne=>by
  have hbp:b≠p:=zam hb hp;refine ⟨?_,?_⟩
  ·show upd (upd w.H p _) a _ b=_;rw [zad (fun z=>hne (by rw [z];exact how)),zad hbp];exact hb
  ·show (if b=p then _ else w.ow b)=_;rw [if_neg hbp]
 have ff:Fut w ((w.addF p (.ext (DN cl.P cl.wo p [])) n f).mut a (.ins (cl ob.cls) dx (zcg f (.ref p) fs))):=⟨fun b u hb hk=>by
  have:=kp b u hb (by rw [hk];exact fun z=>by cases z)
  exact ⟨this.1,this.2.trans hk⟩,fun _ _ h=>h⟩
 have hB:B.Fr a=none:=(R.wd.own a _ how).elim (fun z=>by cases z) fun z=>z
 have hBp:B.Fr p=none:=by
  cases z:B.Fr p with
  | none=>rfl
  | some u=>have:=(R.wd.fr p u z).1;rw [hp] at this;cases this
 have Hp:((w.addF p (.ext (DN cl.P cl.wo p [])) n f).mut a (.ins (cl ob.cls) dx (zcg f (.ref p) fs))).H p=some (.ext (DN cl.P cl.wo p [])):=by
  show upd (upd w.H p _) a _ p=_;rw [zad hap.symm,zaj]
 have owp:((w.addF p (.ext (DN cl.P cl.wo p [])) n f).mut a (.ins (cl ob.cls) dx (zcg f (.ref p) fs))).ow p=some (.fld n f):=if_pos rfl
 have owa:((w.addF p (.ext (DN cl.P cl.wo p [])) n f).mut a (.ins (cl ob.cls) dx (zcg f (.ref p) fs))).ow a=some (.obj n):=by
  show (if a=p then _ else w.ow a)=_;rw [if_neg hap];exact how
 refine ⟨⟨⟨fun b u h=>?_,fun b r h=>?_,by rw [yaD];exact R.wd.len,fun m ob' h=>?_,R.wd.tab.keep ff fun P ps h1 h2=>⟨(kp P _ h1 (by rw [h2];simp)).1,(kp P _ h1 (by rw [h2];simp)).2.trans h2⟩⟩,R.len,fun i o e h=>?_⟩,ff⟩
 ·have:=kp b u (R.wd.fr b u h).1 fun z=>by
   rcases R.wd.own b _ z with y | y
   ·cases y
   ·rw [h] at y;cases y
  exact ⟨this.1,this.2.trans (R.wd.fr b u h).2⟩
 ·have h':(if b=p then some (Root.fld n f) else w.ow b)=some r:=h;split at h'
  ·rename_i z;rw [z];exact .inr hBp
  ·exact R.wd.own b r h'
 ·rcases zgi h with ⟨rfl,rfl⟩ | ⟨hne,h⟩
  ·refine ⟨a,hmu,owa,dx,_,zaj,?_⟩;refine zb3.put (hF.keepF ff fun b u g hb hg=>?_) (.inr ⟨rfl,p,[],[],[],rfl,owp,Hp,.nil,.nil,rfl⟩);have:=kp b u hb (by rw [hg];exact fun z=>by cases z);exact ⟨this.1,this.2.trans hg⟩
  ·obtain ⟨b,e,x⟩:=R.wd.obj m ob' h;exact ⟨b,e,x.keep ff fun b u hb hm=>kp b u hb fun z=>by rw [z] at hm;exact hne hm.symm⟩
 ·obtain ⟨v,e1,x⟩:=R.slots i o e h
  exact ⟨v,e1,x.keep ff fun b u hb hr=>by
   have:=kp b u hb (by rw [hr];exact fun z=>by cases z)
   exact ⟨this.1,this.2.trans hr⟩⟩
noncomputable def zmk(ob:Ob):Bool:=decide (ob.fs.map (·.1)).Nodup
def zb3.dic(ff:Fut w w')(k:∀b o g,g≠f->w.H b=some o->w.ow b=some (.fld n g)->w'.H b=some o/\w'.ow b=some (.fld n g))(hy:zgw cl w' (.fld n f) true (.ref a) d):∀{fs:List (Str×V)} {gs:List (Str×Bool×D)},zb3 cl w n fs gs->(gs.map (·.1)).Nodup->fs.lookup f=some (.ref a)->zb3 cl w' n fs (zhF f true d gs):=by
 intro fs gs h
 induction h with
 | nil=>intro _ e;cases e
 | @cons p q l1 l2 h t ih =>
  intro nd e;obtain ⟨h1,h2⟩:=h;obtain ⟨g,v⟩:=p;obtain ⟨g',o',d'⟩:=q;have h1':g=g':=h1;subst h1';rw [yaR,ybQ] at nd;show zb3 cl w' n ((g,v)::l1) (if g=f then (g,true,d)::l2 else (g,o',d')::zhF f true d l2);rw [yaw] at e
  by_cases hg:g=f
  ·subst hg;rw [if_pos rfl];simp only [ybw] at e;cases e;refine .cons ⟨rfl,hy⟩ ?_;have t':zb3 cl w n l1 l2:=t;exact t'.keepBut ff k fun q hq hx=>absurd (ybd.mpr ⟨q,hq,hx⟩) nd.1
  ·rw [if_neg hg];have hb:(f == g)=false:=ya0.mpr fun z=>hg z.symm
   rw [hb] at e;exact .cons ⟨rfl,h2.keep ff fun b o hb hr=>k b o g hg hb hr⟩ (ih nd.2 e)
def Rel.setd(R:Rel cl B σ w ρ S)(hn:S[n]?=some ob)(hmu:w.mu[n]?=some a)(how:w.ow a=some (.obj n))(hH:w.H a=some (.ins (cl ob.cls) dx fs))(hF:zb3 cl w n fs ob.fs)
  (hl:fs.lookup f=some (.ref c)) (hc:w.ow c=some (.fld n f)) (hcH:w.H c=some (.ext (DN cl.P cl.wo c xs))) (he:zhs w xs m) (hs:ShdN cl w m ds) (hk:zkg w kb k) (rv:zaI v u) (hv:Shd cl w v d) (nd:zmk ob=true) :
  Rel cl B σ (w.mut c (.ext (DN cl.P cl.wo c (xs++[(k,kb,u)])))) ρ (S.set n (ob.put f true (.dic (ds++[(nkD k,d)]))))/\Fut w (w.mut c (.ext (DN cl.P cl.wo c (xs++[(k,kb,u)])))):=by
 have ff:=zbe (w:=w) (p:=c) (o:=.ext (DN cl.P cl.wo c (xs++[(k,kb,u)]))) (by rw [hc];exact yat _)
 have kp:∀b o,w.H b=some o->w.ow b≠some (.fld n f)->(w.mut c (.ext (DN cl.P cl.wo c (xs++[(k,kb,u)])))).H b=some o/\(w.mut c (.ext (DN cl.P cl.wo c (xs++[(k,kb,u)])))).ow b=w.ow b:=fun b o hb hne=>⟨by
  show upd w.H c _ b=_
  rw [zad (fun z=>hne (by rw [z];exact hc))];exact hb,rfl⟩
 have hB:B.Fr c=none:=(R.wd.own c _ hc).elim (fun z=>by cases z) fun z=>z
 refine ⟨⟨⟨fun b o h=>?_,R.wd.own,by rw [yaD];exact R.wd.len,fun m' ob' h=>?_,R.wd.tab.keep ff fun P ps h1 h2=>⟨(kp P _ h1 (by rw [h2];simp)).1,(kp P _ h1 (by rw [h2];simp)).2.trans h2⟩⟩,R.len,fun i o e h=>?_⟩,ff⟩
 ·refine ⟨?_,(R.wd.fr b o h).2⟩;show upd w.H c _ b=_;rw [zad (fun z=>by rw [z,hB] at h;cases h)];exact (R.wd.fr b o h).1
 ·rcases zgi h with ⟨rfl,rfl⟩ | ⟨hne,h⟩
  ·refine ⟨a,hmu,how,dx,fs,?_,?_⟩
   ·exact (kp a _ hH (by rw [how];exact fun z=>by cases z)).1
   ·refine zb3.dic (a:=c) ff (fun b o g hg hb hr=>?_) (.inr ⟨rfl,c,_,m++[(k,v)],ds++[(nkD k,d)],rfl,hc,zaj,?_,?_,rfl⟩) hF (yal nd) hl
    ·exact ⟨(kp b o hb (by rw [hr];exact fun z=>hg (by cases z;rfl))).1,hr⟩
    ·exact (he.up ff).snoc ⟨rfl,hk.up ff,rv⟩
    ·exact (hs.up ff).snoc (hv.up ff)
  ·obtain ⟨b,e,x⟩:=R.wd.obj m' ob' h;exact ⟨b,e,x.keep ff fun b o hb hm=>kp b o hb fun z=>by rw [z] at hm;exact hne hm.symm⟩
 ·obtain ⟨v',e1,x⟩:=R.slots i o e h;exact ⟨v',e1,x.keep ff fun b o hb hr=>⟨(kp b o hb (by rw [hr];exact fun z=>by cases z)).1,hr⟩⟩
def Wd.addO(w:Wd)(x dx C:Addr)(n:Nat):Wd:=⟨upd (upd w.H dx (.own x)) x (.ins C dx []),fun b=>if b=x then some (.obj n) else if b=dx then none else w.ow b,w.mu++[x]⟩
theorem Rel.made(R:Rel cl B σ w ρ S)(hx:w.H x=none)(hdx:w.H dx=none)(ne:dx≠x):Rel cl B σ (w.addO x dx (cl c) S.length) ρ (S++[⟨c,[]⟩])/\Fut w (w.addO x dx (cl c) S.length):=by
 have kp:∀b o,w.H b=some o->(w.addO x dx (cl c) S.length).H b=some o/\(w.addO x dx (cl c) S.length).ow b=w.ow b:=fun b o hb=>by
  have n1:b≠x:=zam hb hx;have n2:b≠dx:=zam hb hdx;refine ⟨?_,?_⟩
  ·show upd (upd w.H dx _) x _ b=_;rw [zad n1,zad n2];exact hb
  ·show (if b=x then _ else if b=dx then _ else w.ow b)=_;rw [if_neg n1,if_neg n2]
 have ff:Fut w (w.addO x dx (cl c) S.length):=⟨fun b o hb hk=>⟨(kp b o hb).1,(kp b o hb).2.trans hk⟩,fun n a h=>by
  show (w.mu++[x])[n]?=some a
  rw [yaF (yai.mp h).1];exact h⟩
 have hBx:B.Fr x=none:=by
  cases z:B.Fr x with
  | none=>rfl
  | some u=>have:=(R.wd.fr x u z).1;rw [hx] at this;cases this
 refine ⟨⟨⟨fun b o h=>?_,fun b r h=>?_,by show (w.mu++[x]).length=_;rw [yau,yau,R.wd.len];rfl,fun m ob h=>?_,R.wd.tab.keep ff fun P ps h1 h2=>⟨(kp P _ h1).1,(kp P _ h1).2.trans h2⟩⟩,R.len,fun i o e h=>?_⟩,ff⟩
 ·have:=kp b o (R.wd.fr b o h).1;exact ⟨this.1,this.2.trans (R.wd.fr b o h).2⟩
 ·have h':(if b=x then some (Root.obj S.length) else if b=dx then none else w.ow b)=some r:=h;split at h'
  ·rename_i z;rw [z];exact .inr hBx
  ·split at h'
   ·cases h'
   ·exact R.wd.own b r h'
 ·by_cases hm:m<S.length
  ·rw [yaF hm] at h;obtain ⟨b,e,y⟩:=R.wd.obj m ob h;exact ⟨b,ff.mu _ _ e,y.keep ff fun b o hb _=>kp b o hb⟩
  ·have hm':m=S.length:=by
    have:=(yai.mp h).1;rw [yau,List.length_singleton] at this;omega
   subst hm';rw [yav (yah _),yda] at h;cases h;refine ⟨x,?_,if_pos rfl,dx,[],zaj,.nil⟩;show (w.mu++[x])[S.length]?=some x;rw [yav (by rw [R.wd.len];exact yah _),R.wd.len,yda];rfl
 ·obtain ⟨v,e1,y⟩:=R.slots i o e h;exact ⟨v,e1,y.keep ff fun b o hb hr=>⟨(kp b o hb).1,(kp b o hb).2.trans hr⟩⟩
end
noncomputable def zkY:D->Option (Option Int) | .non=>some none | .int i=>some (some i) | _=>none
def zcr:List D->Option (List (Option Int))
 | []=>some []
 | d::r=>(zkY d).bind fun o=>(zcr r).map (o::·)
def znS:D->Option NK
 | .tup [.int i,.tup l]=>(zcr l).map fun os=>(i,os)
 | _=>none
def zeJ(k:NK):List (D×D)->Option D
 | []=>none
 | (q,d)::r=>if znS q=some k then some d else zeJ k r
def zi5(o:Option Int):zkY (oDn o)=some o:=by cases o<;>rfl
theorem zd1:∀l:List (Option Int),zcr (l.map oDn)=some l
 | []=>rfl
 | o::l=>by rw [yaR];unfold zcr;rw [zi5,zd1 l];rfl
def zk4(k:NK):znS (nkD k)=some k:=by
 show (zcr (k.2.map oDn)).map (fun os=>(k.1,os))=some k;rw [zd1];rfl
section
variable{cl:Cf}{w:Wd}
theorem zi4:∀{xs:List V} {ds:List D} {os:Z4},Shds cl w xs ds->zcr ds=some os->xs=os.map oV
 | _,_,os,.nil,h=>by cases h;rfl
 | _,_,os,.cons (v:=v) (d:=d) (ds:=ds) r t,h=>by
  unfold zcr at h
  cases h1:zkY d with
  | none=>rw [h1] at h;cases h
  | some o =>
   rw [h1] at h
   cases h2:zcr ds with
   | none=>rw [h2] at h;cases h
   | some os' =>
    rw [h2] at h;cases h;rw [yaR,<-zi4 t h2]
    cases d<;>simp [zkY] at h1<;>subst h1<;>cases r<;>rfl
def zmm(h:Shd cl w v d)(hk:znS d=some k):∃kb,v=.ref kb/\zkg w kb k:=by
 unfold znS at hk;split at hk
 ·rename_i i l
  cases ho:zcr l with
  | none=>rw [ho] at hk;cases hk
  | some os =>
   rw [ho] at hk;cases hk
   cases h with
   | tup e o r =>
    cases r with
    | cons r1 t =>
     cases t with
     | cons r2 t =>
      cases t;cases r1
      cases r2 with
      | tup e2 o2 r2=>exact ⟨_,rfl,_,⟨e,o⟩,by rw [<-zi4 r2 ho];exact e2,o2⟩
 ·cases hk
theorem zlv:∀{m:List (NK×V)} {ds:List (D×D)},ShdN cl w m ds->∀k:NK,(m.lookup k=none/\zeJ k ds=none)\/∃v d,m.lookup k=some v/\zeJ k ds=some d/\Shd cl w v d
 | _,_,.nil,k=>.inl ⟨rfl,rfl⟩
 | _,_,.cons (k:=k') (v:=v) (d:=d) r t,k=>by
  rw [yaw];unfold zeJ;rw [zk4]
  by_cases e:k'=k
  ·subst e;rw [if_pos rfl,ybw];exact .inr ⟨v,d,rfl,rfl,r⟩
  ·rw [if_neg (fun z=>e (by cases z;rfl)),ya0.mpr (fun z=>e z.symm)];exact zlv t k
theorem zmx:∀{m:List (NK×V)} {ds:List (D×D)},ShdN cl w m ds->m.length=ds.length
 | _,_,.nil=>rfl
 | _,_,.cons r t=>by rw [yam,yam,zmx t]
end
noncomputable def zrV(cn f:Str)(d:D)(S:Sto):Option D:=match d with
 | .ref n=>(match S[n]? with
  | some ob=>if ob.cls=cn then (match ob.fs.lookup f with | some (false,d)=>some d | _=>none) else none
  | none=>none)
 | _=>none
def ztu(cn f:Str)(fe:Fe):Fe:=fun ρ S=>(fe ρ S).bind fun d S1=>match zrV cn f d S1 with | some r=>.ok r S1 | none=>.bad
noncomputable def zke(cl:Cf)(cn f:Str):Prop:=Cls cl.K (cl cn)/\zcd cl.K (cl cn) f
noncomputable def zmy(cn f:Str)(d:D)(S:Sto):Option (Nat×Ob×List (D×D)):=match d with
 | .ref n=>(match S[n]? with
  | some ob=>if ob.cls=cn then (match ob.fs.lookup f with | some (true,.dic ds)=>some (n,ob,ds) | _=>none) else none
  | none=>none)
 | _=>none
section
variable{cl:Cf}{cn:Str}{X:Cx}{E:St->XK}{e:Expr}{fe:Fe}{f:Str}{pos:Pos}{B:Base}{σ:St}{w:Wd}{ρ:Env}{S:Sto}
def zfR(R:Rel cl B σ w ρ S)(hv:Shd cl w v (.ref n))(hn:S[n]?=some ob):∃a dx fs,v=.ref a/\w.mu[n]?=some a/\w.ow a=some (.obj n)/\w.H a=some (.ins (cl ob.cls) dx fs)/\zb3 cl w n fs ob.fs:=by
 cases hv with
 | ref e =>
  obtain ⟨h1,dx,fs,h2,h3⟩:=R.wd.atObj hn e;exact ⟨_,dx,fs,rfl,e,h1,h2,h3⟩
def zrl(hk:zke cl cn f)(R:Rel cl B σ w ρ S)(hv:Shd cl w v d)(hd:zrV cn f d S=some r):∃a C dx fs y,v=.ref a/\w.H a=some (.ins C dx fs)/\Cls cl.K C/\zcd cl.K C f/\fs.lookup f=some y/\Shd cl w y r:=by
 unfold zrV at hd
 cases d with
 | ref n =>
  dsimp only at hd
  cases hS:S[n]? with
  | none=>rw [hS] at hd;cases hd
  | some ob =>
   rw [hS] at hd;dsimp only at hd;split at hd
   ·rename_i hfk;split at hd
    ·rename_i d hl;cases hd;obtain ⟨a,dx,fs,rfl,_,_,hH,hF⟩:=zfR R hv hS;obtain ⟨v,lv,fr⟩:=hF.look hl
     rcases fr with ⟨_,fr⟩ | ⟨z,_⟩
     ·exact ⟨a,_,dx,fs,v,rfl,hH,hfk ▸ hk.1,hfk ▸ hk.2,lv,fr⟩
     ·cases z
    ·cases hd
   ·cases hd
 | _=>cases hd
def zpy(hk:zke cl cn f)(kk:X.K=cl.K)(he:PE X e (tE cl E fe))(hb:attributeBase e f X.env (eval e X.env)=eval e X.env):PE X (.Attribute e f pos) (tE cl E (ztu cn f fe)):=by
 refine PE.imp (zfc he hb) ?_;rintro σ H Q ⟨B,w,ρ,S,rfl,R,q⟩;refine ⟨B,w,ρ,S,rfl,R,?_⟩;unfold ztu at q
 cases hf:fe ρ S with
 | bad=>rwa [hf] at q
 | exc c S1=>rwa [hf] at q
 | ok d S1 =>
  rw [hf] at q;intro v w1 R1 F1 h1;dsimp only [Out.bind] at q
  cases hd:zrV cn f d S1 with
  | none=>rw [hd] at q;exact q.elim
  | some r =>
   rw [hd] at q;obtain ⟨a,C,dx,fs,y,rfl,e1,e2,e3,e4,e5⟩:=zrl hk R1 h1 hd;rw [kk];exact ⟨a,C,dx,fs,y,rfl,e1,e2,e3,e4,q y w1 R1 F1 e5⟩
def zj6(hk:zke cl cn f)(R:Rel cl B σ w ρ S)(hv:Shd cl w v d)(hd:zmy cn f d S=some (n,ob,ds)) :
  ∃a dx fs c xs m,v=.ref a/\S[n]?=some ob/\w.mu[n]?=some a/\w.ow a=some (.obj n)/\w.H a=some (.ins (cl ob.cls) dx fs)/\zb3 cl w n fs ob.fs/\Cls cl.K (cl ob.cls)/\zcd cl.K (cl ob.cls) f/\fs.lookup f=some (.ref c)/\w.ow c=some (.fld n f)/\w.H c=some (.ext (DN cl.P cl.wo c xs))/\zhs w xs m/\ShdN cl w m ds:=by
 unfold zmy at hd
 cases d with
 | ref n' =>
  dsimp only at hd
  cases hS:S[n']? with
  | none=>rw [hS] at hd;cases hd
  | some ob' =>
   rw [hS] at hd;dsimp only at hd;split at hd
   ·rename_i hfk;split at hd
    ·rename_i ds' hl;cases hd;obtain ⟨a,dx,fs,rfl,hmu,how,hH,hF⟩:=zfR R hv hS;obtain ⟨v,lv,fr⟩:=hF.look hl
     rcases fr with ⟨z,_⟩ | ⟨_,c,xs,m,ds2,rfl,c1,c2,c3,c4,e⟩
     ·cases z
     ·cases e;exact ⟨a,dx,fs,c,xs,m,rfl,hS,hmu,how,hH,hF,hfk ▸ hk.1,hfk ▸ hk.2,lv,c1,c2,c3,c4⟩
    ·cases hd
   ·cases hd
 | _=>cases hd
end
end S2
namespace L2
open PySem PySem.Spec PyProof.Rows
section
variable{X:Cx}
noncomputable def zwk(ta:TA):TE:=fun σ H Q=>ta σ H fun vs H1=>∃j:Int,vs=[.int j]/\0<=j/\j<=1000/\∀p,H1 p=none->Q (.ref p) (upd H1 p (.rng 0 j))
def zpS{a:Expr}{ta:TA}{p pos:Pos}(hg:Gl X "range")(hm:X.mg "range" = none)(ha:PA X [a] ta)(hs:starEach [a] X.env=[(false,eval a X.env)]:=by rfl):PE X (.Call (.Name "range" p) [a] [] pos) (zwk ta):=by
 intro pins s σ H Q I h;refine Call_ (zbp I hg hm boot_range (yaC (thn (ha pos pins s σ H _ I h) fun us s1 ⟨vs,H1,I1,r1,q1⟩=>?_) hs rfl));obtain ⟨j,e,j0,j1,q⟩:=q1;subst e
 cases r1 with
 | cons r rr =>
  cases rr;obtain ⟨t,rfl⟩:=r;refine call_range_1 ⟨.ref s1.heap.objs.size,_,I1.laid (a:=s1.heap.objs.size) (o:=.rng 0 j) (fun _ _ q=>yad _ q) (yah _) ⟨_,_,_,yag _ rfl⟩,rfl,q _ (I1.hok.fresh (yah _))⟩
theorem zhu:∀(n:Nat) (its:List Value),its.length=n->(∀(i:Nat) (v:Value),its[i]?=some v->∃t,v=.int (i:Int) t)->Vals ((List.range n).map fun (i:Nat)=>V.int (i:Int)) its:=by
 intro n
 induction n with
 | zero =>
  intro its hl _;have:its=[]:=ybx hl;subst this;exact .nil
 | succ n ih =>
  intro its hl h
  have e:its=its.take n++[its[n]]:=by
   have:=ycI n its
   have h2:its.drop n=[its[n]]:=by
    rw [ych (by omega),List.drop_of_length_le (by omega)]
   rw [h2] at this;exact this.symm
  rw [e,List.range_succ,ycw];refine (ih (its.take n) (by rw [yaH];omega) fun i v hv=>?_).append (.cons ?_ .nil)
  ·have hi:i<n:=by
    have:=(yai.mp hv).1;rw [yaH] at this;omega
   rw [ycr,if_pos hi] at hv;exact h i v hv
  ·exact h n its[n] (yac (by omega))
theorem zeN(hc:X.calm=true):zbg X (.type "list") (fun xs H Q=>∃(p:Addr) (n:Nat),xs=[.ref p]/\H p=some (.rng 0 (n:Int))/\n<=1000/\∀l,H l=none->Q (.ref l) (upd H l (.lst ((List.range n).map fun (i:Nat)=>V.int (i:Int))))):=by
 intro pins s σ H xs us Q I r h;obtain ⟨p,n,rfl,hp,hn,q⟩:=h;obtain ⟨u,rfl,rx⟩:=zce r;cases rx;obtain ⟨t,u,v,hr⟩:=I.hok p _ hp;refine call_list_range (n:=n) (I.ok.hd hc) (show IsRange s.heap p 0 (n:Int) 1 t u v from hr) (small_one (by omega) (by omega) (by omega) (by omega)) (by rw [rangeSize_one];split<;>omega) (by omega) fun h' tk acc c' kp e hi=>?_
 refine ⟨.ref s.heap.objs.size,_,I.laid (t':=tk) kp (yah _) (show zaX X.prog X.w _ h' _ (.lst _) from ⟨?_,acc.toList,c',zhu n acc.toList ?_ ?_,by simpa using e⟩),rfl,q _ (I.hok.fresh (yah _))⟩
 ·rw [yao,yb9];exact yas hn (by decide)
 ·have:=hi.1;simpa using this
 ·intro i v hv;have:=hi.2 i v (by simpa using hv);simpa using this
end
end L2
namespace S2
open PySem PySem.Spec PyProof.Rows L2
def zq1(cn f:Str)(fa fo:Fe):Fe:=fun ρ S=>(fa ρ S).bind fun dk S1=>(fo ρ S1).bind fun d S2=>match znS dk,zmy cn f d S2 with
 | some k,some (_,_,ds)=>.ok (.bl (zeJ k ds).isNone) S2
 | _,_=>.bad
noncomputable def zoL(ρ:Env)(i:Nat):Option NK:=match ρ[i]? with | some (some (false,dk))=>znS dk | _=>none
def zol(cn f:Str)(fo:Fe)(i:Nat):Fe:=fun ρ S=>(fo ρ S).bind fun d S1=>match zoL ρ i,zmy cn f d S1 with
 | some k,some (_,_,ds)=>(match zeJ k ds with | some r=>.ok r S1 | none=>.bad)
 | _,_=>.bad
def znq(cn f:Str)(fo:Fe)(i:Nat)(fe:Fe):Fs:=fun ρ S=>match fe ρ S with
 | .bad=>.bad
 | .exc c S1=>.ex c ρ S1
 | .ok r S1=>(match fo ρ S1 with
  | .bad=>.bad
  | .exc c S2=>.ex c ρ S2
  | .ok d S2=>(match zoL ρ i,zmy cn f d S2 with
   | some k,some (n,ob,ds)=>if (zeJ k ds).isNone&&decide (ds.length<=1000000)&&zmk ob then .nx ρ (S2.set n (ob.put f true (.dic (ds++[(nkD k,r)])))) else .bad
   | _,_=>.bad))
def znt(cn f:Str)(fo fe:Fe):Fs:=fun ρ S=>match fe ρ S with
 | .bad=>.bad
 | .exc c S1=>.ex c ρ S1
 | .ok r S1=>(match fo ρ S1 with
  | .bad=>.bad
  | .exc c S2=>.ex c ρ S2
  | .ok (.ref n) S2=>(match S2[n]? with
   | some ob=>if decide (ob.cls=cn)&&decide (ob.fs.length<1000) then .nx ρ (S2.set n (ob.put f false r)) else .bad
   | none=>.bad)
  | .ok _ _=>.bad)
def znu(cn f:Str)(i:Nat):Fs:=fun ρ S=>match ρ[i]? with
 | some (some (false,.ref n))=>(match S[n]? with
   | some ob=>if decide (ob.cls=cn)&&decide (ob.fs.length<1000) then .nx ρ (S.set n (ob.put f true (.dic []))) else .bad
   | none=>.bad)
 | _=>.bad
noncomputable def zfi(c m:Str)(d:D)(S:Sto):Bool:=match d with
 | .ref n=>(match S[n]? with | some ob=>decide (ob.cls=c)&&(ob.fs.lookup m).isNone | none=>false)
 | _=>false
def zjM(c m:Str)(G:List D->Sto->Out D)(fo:Fe)(fs:List Fe):Fe:=fun ρ S=>(fo ρ S).bind fun d S1=>if zfi c m d S1 then (zag fs ρ S1).bind fun ds S2=>G (d::ds) S2 else .bad
def eMk(c:Str)(dds:List D)(G:List D->Sto->Out D)(fs:List Fe):Fe:=fun ρ S=>(zag fs ρ S).bind fun ds S1=>(G (.ref S1.length::(ds++dds)) (S1++[⟨c,[]⟩])).bind fun r S2=>match r with | .non=>.ok (.ref S1.length) S2 | _=>.bad
structure Same'(cl:Cf)(X:Cx):Prop where
 kk:X.K=cl.K
 pp:X.prog=cl.P
 ww:X.w=cl.wo
section
variable{cl:Cf}{cn:Str}{X:Cx}{E:St->XK}{a o e:Expr}{fa fo fe:Fe}{f:Str}{pos apos:Pos}{own:Bool}
def zqo(sm:Same' cl X)(hk:zke cl cn f)(σ:St)(H:Hp)(Q:VK)(q:tE cl E (zq1 cn f fa fo) σ H Q) :
  tOp (fun x y H Q=>∃kb a k xs m,x=.ref kb/\y=.ref a/\zgv H kb k/\H a=some (.ext (DN X.prog X.w a xs))/\zlU H xs m/\Q (.bl (m.lookup k).isNone) H) (tE cl E fa) (zuy X.K (tE cl E fo) f) σ H Q:=by
 obtain ⟨B,w,ρ,S,rfl,R,q⟩:=q;refine ⟨B,w,ρ,S,rfl,R,?_⟩;unfold zq1 at q
 cases hf:fa ρ S with
 | bad=>rwa [hf] at q
 | exc c S1=>rwa [hf] at q
 | ok dk S1 =>
  rw [hf] at q;intro v w1 R1 F1 h1;refine ⟨B,w1,ρ,S1,rfl,R1,?_⟩;dsimp only [Out.bind] at q
  cases hh:fo ρ S1 with
  | bad=>rwa [hh] at q
  | exc c S2=>rw [hh] at q;exact fun w2 R2 F2=>q w2 R2 (F1.trans F2)
  | ok d S2 =>
   rw [hh] at q;intro y w2 R2 F2 h2;dsimp only at q
   cases hn:znS dk with
   | none=>rw [hn] at q;exact q.elim
   | some k =>
    cases hd:zmy cn f d S2 with
    | none=>rw [hn,hd] at q;exact q.elim
    | some t =>
     obtain ⟨n,ob,ds⟩:=t;rw [hn,hd] at q;dsimp only at q;obtain ⟨a,dx,fs,c,xs,m,rfl,_,_,_,hH,_,c1,c2,lv,_,hc,he,hs⟩:=zj6 hk R2 h2 hd;obtain ⟨kb,rfl,ks⟩:=zmm (h1.up F2) hn;rw [sm.kk];refine ⟨a,_,dx,fs,_,rfl,hH,c1,c2,lv,kb,c,k,xs,m,rfl,rfl,ks.at,by rw [sm.pp,sm.ww];exact hc,he.ents,?_⟩
     have:(m.lookup k).isNone=(zeJ k ds).isNone:=by
      rcases zlv hs k with ⟨e1,e2⟩ | ⟨_,_,e1,e2,_⟩<;>rw [e1,e2]<;>rfl
     rw [this];exact q _ w2 R2 (F1.trans F2) (.bl _)
def zpw(hu:X.A.units+16<cLine)(sm:Same' cl X)(hk:zke cl cn f)(ha:PE X a (tE cl E fa))(ho:PE X o (tE cl E fo))(hb:attributeBase o f X.env (eval o X.env)=eval o X.env)(hm:behindInMarks .NotIn (.Attribute o f apos)=false):PE X (.Compare a [.NotIn] [.Attribute o f apos] pos) (tE cl E (zq1 cn f fa fo)) :=
 PE.imp (zi1 (zmg hu) ha (zfc ho hb) hm) (zqo sm hk)
def zpb(hu:X.A.units+16<cLine)(sm:Same' cl X)(hk:zke cl cn f)(ha:PE X a (tE cl E fa))(ho:PE X o (tE cl E fo))(hb:attributeBase o f X.env (eval o X.env)=eval o X.env)(hm:behindInMarks .NotIn (.Attribute o f apos)=false):PT X (.Compare a [.NotIn] [.Attribute o f apos] pos) (tTr cl E (zq1 cn f fa fo)) :=
 PT.imp (ziK (zmg hu) ha (zfc ho hb) hm) fun _ _ _ q=>zqo sm hk _ _ _ (zgE q)
def zjn(R:Rel cl B σ w ρ S)(h:zoL ρ i=some k):∃kb,σ[i]?=some (some (.ref kb))/\zkg w kb k:=by
 unfold zoL at h;split at h
 ·rename_i dk hi;obtain ⟨v,e,r⟩:=R.slots i false dk hi;obtain ⟨kb,rfl,ks⟩:=zmm r h;exact ⟨kb,e,ks⟩
 ·cases h
def zno(hN:X.N[i]?=some x)(hv:Vis X.env.scope x)(hd:(x == ("__debug__":Str))=false)(hcd:(x == ("__classdict__":Str))=false)(hu:X.A.units+16<cLine)(sm:Same' cl X)(hk:zke cl cn f)(ho:PE X o (tE cl E fo))(hb:attributeBase o f X.env (eval o X.env)=eval o X.env)(hs:zeR (.Name x p)):PE X (.Subscript (.Attribute o f apos) (.Name x p) pos) (tE cl E (zol cn f fo i)):=by
 refine PE.imp (zpY (zqG hu) (zfc ho hb) (zaU hN hv hd hcd) hs) ?_;rintro σ H Q ⟨B,w,ρ,S,rfl,R,q⟩;refine ⟨B,w,ρ,S,rfl,R,?_⟩;unfold zol at q
 cases hf:fo ρ S with
 | bad=>rwa [hf] at q
 | exc c S1=>rwa [hf] at q
 | ok d S1 =>
  rw [hf] at q;intro v w1 R1 F1 h1;dsimp only [Out.bind] at q
  cases hn:zoL ρ i with
  | none=>rw [hn] at q;exact q.elim
  | some k =>
   cases hd:zmy cn f d S1 with
   | none=>rw [hn,hd] at q;exact q.elim
   | some t =>
    obtain ⟨n,ob,ds⟩:=t;rw [hn,hd] at q;dsimp only at q;obtain ⟨a,dx,fs,c,xs,m,rfl,_,_,_,hH,_,c1,c2,lv,_,hc,he,hs⟩:=zj6 hk R1 h1 hd;obtain ⟨kb,eσ,ks⟩:=zjn R1 hn
    cases hl:zeJ k ds with
    | none=>rw [hl] at q;exact q.elim
    | some r =>
     rw [hl] at q
     rcases zlv hs k with ⟨_,e2⟩ | ⟨y,r',e1,e2,sh⟩
     ·rw [hl] at e2;cases e2
     ·rw [hl] at e2;cases e2;rw [sm.kk];exact ⟨a,_,dx,fs,_,rfl,hH,c1,c2,lv,_,eσ,c,kb,k,xs,m,y,rfl,rfl,ks.at,by rw [sm.pp,sm.ww];exact hc,he.ents,e1,q _ w1 R1 F1 sh⟩
def zm2(hN:X.N[i]?=some x)(hv:Vis X.env.scope x)(hd:(x == ("__debug__":Str))=false)(hcd:(x == ("__classdict__":Str))=false)(hu:X.A.units+16<cLine)(sm:Same' cl X)(hk:zke cl cn f)(ho:PE X o (tE cl E fo))(hb:attributeBase o f X.env (eval o X.env)=eval o X.env)(he:PE X e (tE cl E fe))
  (sw1:swapsWithSole [.Subscript (.Attribute o f apos) (.Name x p) p3] e pos.line X.env=pure false) (sw2:swappedStores [.Subscript (.Attribute o f apos) (.Name x p) p3] e X.env=pure none)
  (ha:∀v,assign (.Subscript (.Attribute o f apos) (.Name x p) p3) X.env v=(do
   let ov ← holding [v] (eval (.Attribute o f apos) X.env)
   let iv ← holding [v,ov] (eval (.Name x p) X.env)
   standAt p3
   holding [v,ov,iv] (setItem ov iv v)
   release [v,ov,iv] [])):PS X (.Assign [.Subscript (.Attribute o f apos) (.Name x p) p3] e pos) (tS cl E own (znq cn f fo i fe)):=by
 refine PS.imp (zd0 he (ziW (zfc ho hb) (zaU hN hv hd hcd) (znh hu) ha) sw1 sw2 rfl) ?_;rintro De σ H ⟨B,w,ρ,S,rfl,R,q⟩;refine ⟨B,w,ρ,S,rfl,R,?_⟩;unfold znq at q
 cases hf:fe ρ S with
 | bad=>rwa [hf] at q
 | exc c S1=>rw [hf] at q;exact fun w' R' F'=>q σ w' R' F'
 | ok r S1 =>
  rw [hf] at q;intro v w1 R1 F1 h1;dsimp only at q;refine ⟨B,w1,ρ,S1,rfl,R1,?_⟩
  cases hfo:fo ρ S1 with
  | bad=>rwa [hfo] at q
  | exc c S2=>rw [hfo] at q;exact fun w' R' F'=>q σ w' R' (F1.trans F')
  | ok d S2 =>
   rw [hfo] at q;intro y w2 R2 F2 h2;dsimp only at q
   cases hn:zoL ρ i with
   | none=>rw [hn] at q;exact q.elim
   | some k =>
    cases hd:zmy cn f d S2 with
    | none=>rw [hn,hd] at q;exact q.elim
    | some t =>
     obtain ⟨n,ob,ds⟩:=t;rw [hn,hd] at q;dsimp only at q;split at q
     ·rename_i hc0;rw [yab,yab] at hc0;obtain ⟨⟨z1,z2⟩,z3⟩:=hc0;obtain ⟨a,dx,fs,c,xs,m,rfl,hS,hmu,how,hH,hF,c1,c2,lv,oc,hc,he,hs⟩:=zj6 hk R2 h2 hd;obtain ⟨kb,eσ,ks⟩:=zjn R2 hn
      have hno:m.lookup k=none:=by
       rcases zlv hs k with ⟨e1,_⟩ | ⟨_,_,_,e2,_⟩
       ·exact e1
       ·rw [e2] at z1;cases z1
      rw [sm.kk];refine ⟨a,_,dx,fs,_,rfl,hH,c1,c2,lv,_,eσ,c,kb,k,xs,m,rfl,rfl,ks.at,by rw [sm.pp,sm.ww];exact hc,he.ents,hno,by rw [zmx hs];exact yal z2,fun u ru=>?_⟩;obtain ⟨R3,F3⟩:=R2.setd hS hmu how hH hF lv oc hc he hs ks ru (h1.up F2) z3;rw [sm.pp,sm.ww];exact q σ _ R3 (F1.trans (F2.trans F3))
     ·exact q.elim
def zm4(sm:Same' cl X)(hk:zke cl cn f)(ho:PE X o (tE cl E fo))(he:PE X e (tE cl E fe))(hs:swapsWith e (some (.Attribute o f apos)) pos.line X.env=pure false):PS X (.Assign [.Attribute o f apos] e pos) (tS cl E own (znt cn f fo fe)):=by
 refine PS.imp (zma ho he hs) ?_;rintro De σ H ⟨B,w,ρ,S,rfl,R,q⟩;refine ⟨B,w,ρ,S,rfl,R,?_⟩;unfold znt at q
 cases hf:fe ρ S with
 | bad=>rwa [hf] at q
 | exc c S1=>rw [hf] at q;exact fun w' R' F'=>q σ w' R' F'
 | ok r S1 =>
  rw [hf] at q;intro v w1 R1 F1 h1;dsimp only at q;refine ⟨B,w1,ρ,S1,rfl,R1,?_⟩
  cases hfo:fo ρ S1 with
  | bad=>rwa [hfo] at q
  | exc c S2=>rw [hfo] at q;exact fun w' R' F'=>q σ w' R' (F1.trans F')
  | ok d S2 =>
   rw [hfo] at q;intro y w2 R2 F2 h2
   cases d with
   | ref n =>
    dsimp only at q
    cases hS:S2[n]? with
    | none=>rw [hS] at q;exact q.elim
    | some ob =>
     rw [hS] at q;dsimp only at q;split at q
     ·rename_i hc0;rw [yab] at hc0;obtain ⟨a,dx,fs,rfl,hmu,how,hH,hF⟩:=zfR R2 h2 hS;rw [sm.kk];refine ⟨a,_,dx,fs,rfl,hH,yal hc0.1 ▸ hk.1,yal hc0.1 ▸ hk.2,by rw [hF.len];exact yal hc0.2,?_⟩;obtain ⟨R3,F3⟩:=R2.setf (f:=f) hS hmu how hH hF (h1.up F2);exact q σ _ R3 (F1.trans (F2.trans F3))
     ·exact q.elim
   | _=>exact q.elim
def zm5(hN:X.N[i]?=some x)(hv:Vis X.env.scope x)(hd:(x == ("__debug__":Str))=false)(hcd:(x == ("__classdict__":Str))=false)(sm:Same' cl X)(hk:zke cl cn f)(hs:swapsWith (.Dict [] [] p) (some (.Attribute (.Name x p2) f apos)) pos.line X.env=pure false):PS X (.Assign [.Attribute (.Name x p2) f apos] (.Dict [] [] p) pos) (tS cl E own (znu cn f i)):=by
 refine PS.imp (zma (zaU hN hv hd hcd) znH hs) ?_;rintro De σ H ⟨B,w,ρ,S,rfl,R,q⟩;intro pd hpd;unfold znu at q;split at q
 ·rename_i n hi;obtain ⟨v,ev,rv⟩:=R.slots i false _ hi
  cases hS:S[n]? with
  | none=>rw [hS] at q;exact q.elim
  | some ob =>
   rw [hS] at q;dsimp only at q;split at q
   ·rename_i hc0;rw [yab] at hc0;obtain ⟨a,dx,fs,rfl,hmu,how,hH,hF⟩:=zfR R rv hS;rw [sm.kk];refine ⟨_,ev,a,_,dx,fs,rfl,?_,yal hc0.1 ▸ hk.1,yal hc0.1 ▸ hk.2,by rw [hF.len];exact yal hc0.2,?_⟩
    ·rw [zad (zam hH hpd)];exact hH
    ·obtain ⟨R3,F3⟩:=R.newf (f:=f) hS hmu how hH hF hpd;rw [sm.pp,sm.ww];exact q σ _ R3 F3
   ·exact q.elim
 ·exact q.elim
end
noncomputable def zeX(C:Addr)(m:Str)(sp:Sp)(dvs:List V)(E:St->XK)(ta:TE)(t:TA):TE:=fun σ H Q=>ta σ H fun x H1=>∃a dx fs,x=.ref a/\H1 a=some (.ins C dx fs)/\fs.lookup m=none ∧
 t σ H1 fun vs H2=>sp (x::(vs++dvs)) H2 Q (E σ)
noncomputable def zlY(C:Addr)(sp:Sp)(dvs:List V)(E:St->XK)(t:TA):TE:=fun σ H Q=>t σ H fun vs H1=>∀x dx,H1 x=none->H1 dx=none->dx≠x →
 sp (.ref x::(vs++dvs)) (upd (upd H1 dx (.own x)) x (.ins C dx [])) (fun v H2=>v=.non/\Q (.ref x) H2) (E σ)
section
variable{X:Cx}{CX:CXT}{k:Nat}{f C:Addr}{fd:FuncData}{ps:List Str}{sp:Sp}{dvs:List V}{ds:List Value}{E:St->XK}{x m:Str}{p pos apos:Pos}{e o:Expr}{es:List Expr}{ta:TE}{t:TA}
def zkO(he:PE X o ta)(c:Cls X.K C)(hm:Meth X.K C m f)(F:FnOk X.prog X.w X.K X.mg X.base CX k f fd ps sp)(hr:Room k X.A)(hb:zb5 X.K fd ps ds)(hd:Vals dvs ds)(hx:zbW CX X E)(ha:PA X (e::es) t)
  (hst:starEach (e::es) X.env=(false,eval e X.env)::starEach es X.env) (hpl:(backTo pos (starEach es X.env)).any (·.1)=false)
  (ht:eval (.Call (.Attribute o m apos) (e::es) [] pos) X.env=(do
   let ov ← eval o X.env
   standAt apos.atName
   let (f,first) ← holding [ov] (getMethod ov m pl)
   callWith pos f first (backTo pos (starEach (e::es) X.env)) (backToKw pos (keywordEach [] X.env)))) :
  PE X (.Call (.Attribute o m apos) (e::es) [] pos) (zeX C m sp dvs E ta t):=by
 intro pins s σ H Q I h;refine PySem.W.methodCall_KW (pl:=pl) (thn (he pins s σ H _ I h) fun u s1 ⟨x,H1,I1,rx,a,dx,fs,ex,ea,l,q⟩=>?_) ht;subst ex;obtain rfl:u=Value.ref a:=rx;refine zd4 I1 ea c hm l ?_;refine yb1 (first:=[.ref a]) (h₀:=X.base) I.ok.mod.kin hm.kp (thn (ha pos pins s1 σ H1 _ I1 q) fun us s2 ⟨vs,H2,I2,r,q2⟩=>⟨I2.kIn,?_⟩) hst hpl;exact zeo (us:=.ref a::us) (vs:=.ref a::vs) F hr hb hd hx I2 (.cons rfl r) q2
def ziZ(he:PE X o ta)(c:Cls X.K C)(hm:Meth X.K C m f)(F:FnOk X.prog X.w X.K X.mg X.base CX k f fd ps sp)(hr:Room k X.A)(hb:zb5 X.K fd ps ds)(hd:Vals dvs ds)(hx:zbW CX X E)
  (ht:eval (.Call (.Attribute o m apos) [] [] pos) X.env=(do
   let ov ← eval o X.env
   standAt apos.atName
   let (f,first) ← holding [ov] (getMethod ov m pl)
   callWith pos f first (backTo pos (starEach [] X.env)) (backToKw pos (keywordEach [] X.env)))) :
  PE X (.Call (.Attribute o m apos) [] [] pos) (zeX C m sp dvs E ta zrC):=by
 intro pins s σ H Q I h;refine PySem.W.methodCall_KW (pl:=pl) (thn (he pins s σ H _ I h) fun u s1 ⟨x,H1,I1,rx,a,dx,fs,ex,ea,l,q⟩=>?_) ht;subst ex;obtain rfl:u=Value.ref a:=rx;refine zd4 I1 ea c hm l ?_;exact PySem.W.callWith_K0 (first:=[.ref a]) I1.kIn hm.kp (zeo (us:=[.ref a]) (vs:=[.ref a]) F hr hb hd hx I1 (.cons rfl .nil) q)
def ziG(M:Mk X.K C f)(F:FnOk X.prog X.w X.K X.mg X.base CX k f fd ps sp)(hr:Room (k+1) X.A)(hb:zb5 X.K fd ps ds)(hd:Vals dvs ds)
  (hx:zbW CX X E) (I:Inv X pins σ H s) (r:Vals vs us)
  (h:∀x dx,H x=none->H dx=none->dx≠x->sp (.ref x::(vs++dvs)) (upd (upd H dx (.own x)) x (.ins C dx [])) (fun v H2=>v=.non/\Q (.ref x) H2) (E σ)) :
  wpAny (model X.prog X.w) X.A (call (.ref C) us) (EP X pins σ Q) X.xe s:=by
 have hq:=h (s.heap.objs.size+1) s.heap.objs.size (I.hok.fresh (yb3 _)) (I.hok.fresh (yah _)) (yap (ybj _));have I2:=Inv.made (C:=C) I;have r2:Vals (V.ref (s.heap.objs.size+1)::(vs++dvs)) (Value.ref (s.heap.objs.size+1)::(us++ds)):=.cons rfl (r.append hd)
 have hl:(Value.ref (s.heap.objs.size+1)::us++ds).length=ps.length:=by
  have e:=r2.length;rw [F.len _ _ _ _ hq] at e;exact e.symm
 refine ycV (zla (f:=f) I.kIn M.makes M.init (ybV.mp M.fn) (ybB (F.run _ X.stack _ _ ⟨Value.ref (s.heap.objs.size+1)::us,[]⟩ (Value.ref (s.heap.objs.size+1)::(us++ds)) _ _ (E σ) (hr.make C us [])
  (I2.env0.make C us []) (hb _ (Value.ref (s.heap.objs.size+1)::us) I2.kIn hl) r2 hq) fun r s' hq'=>?_))
 cases r with
 | error e=>exact hx pins σ _ _ e s' I2 hq'
 | ok fl =>
  cases fl with
  | ret u =>
   obtain ⟨v,H',I3,rv,ev,q3⟩:=I2.after hq';subst ev;exact ⟨rv,⟨V.ref (s.heap.objs.size+1),H',I3,rfl,q3⟩⟩
  | next=>exact False.elim hq'
  | brk=>exact False.elim hq'
  | cont=>exact False.elim hq'
def zgU(M:Mk X.K C f)(F:FnOk X.prog X.w X.K X.mg X.base CX k f fd ps sp)(hr:Room (k+1) X.A)(hg:Gl X x)(hm:X.mg x=some (.ref C))(hb:zb5 X.K fd ps ds)(hd:Vals dvs ds)(hx:zbW CX X E)
  (ha:PA X (e::es) t) (hdb:(x == ("__debug__":Str))=false) (he:starEach (e::es) X.env=(false,eval e X.env)::starEach es X.env) (hpl:(backTo pos (starEach es X.env)).any (·.1)=false) :
  PE X (.Call (.Name x p) (e::es) [] pos) (zlY C sp dvs E t):=by
 intro pins s σ H Q I h;refine ya9 (zbQ I hg hm ?_ hdb);refine yb1 (h₀:=X.base) I.ok.mod.kin M.kp (thn (ha pos pins s σ H _ I h) fun us s1 ⟨vs,H1,I1,r,q⟩=>⟨I1.kIn,?_⟩) he hpl;exact ziG M F hr hb hd hx I1 r q
end
section
variable{cl:Cf}{E:St->XK}{fs:List Fe}{fo:Fe}{G:List D->Sto->Out D}{σ:St}{H:Hp}{Q:VK}{n:Nat}{c m:Str}{ρ:Env}
theorem zcz:∀{fs:List Fe} {S S1:Sto} {ds:List D},zag fs ρ S=.ok ds S1->ds.length=fs.length
 | [],S,S1,ds,h=>by cases h;rfl
 | f::fs,S,S1,ds,h=>by
  unfold zag at h
  cases h1:f ρ S with
  | bad=>rw [h1] at h;cases h
  | exc c S2=>rw [h1] at h;cases h
  | ok d S2 =>
   rw [h1] at h;dsimp only [Out.bind] at h
   cases h2:zag fs ρ S2 with
   | bad=>rw [h2] at h;cases h
   | exc c S3=>rw [h2] at h;cases h
   | ok es S3=>rw [h2] at h;cases h;rw [yam,yam,zcz h2]
def zjc(R:Rel cl B σ w ρ S)(hv:Shd cl w v d)(h:zfi c m d S=true):∃a dx fs,v=.ref a/\w.H a=some (.ins (cl c) dx fs)/\fs.lookup m=none:=by
 unfold zfi at h
 cases d with
 | ref n =>
  dsimp only at h
  cases hS:S[n]? with
  | none=>rw [hS] at h;cases h
  | some ob =>
   rw [hS] at h;dsimp only at h;rw [yab] at h;obtain ⟨a,dx,fs,rfl,_,_,hH,hF⟩:=zfR R hv hS;have e:=yal h.1;subst e;exact ⟨a,dx,fs,rfl,hH,hF.miss (by simpa using h.2)⟩
 | _=>cases h
def zqr(q:tE cl E (zjM c m G fo fs) σ H Q)(hn:fs.length+1=n):zeX (cl c) m (zfU cl n false G) [] E (tE cl E fo) (tAs cl E fs) σ H Q:=by
 obtain ⟨B,w,ρ,S,rfl,R,q⟩:=q;refine ⟨B,w,ρ,S,rfl,R,?_⟩;unfold zjM at q
 cases hfo:fo ρ S with
 | bad=>rwa [hfo] at q
 | exc c S1=>rwa [hfo] at q
 | ok d S0 =>
 rw [hfo] at q;intro v w0 R0 F0 h0;dsimp only [Out.bind] at q
 cases hok:zfi c m d S0 with
 | false=>rw [hok] at q;exact q.elim
 | true =>
 rw [hok,if_pos rfl] at q;obtain ⟨a,dx,fs',rfl,hH,hm⟩:=zjc R0 h0 hok;refine ⟨a,dx,fs',rfl,hH,hm,B,w0,ρ,S0,rfl,R0,?_⟩
 cases hf:zag fs ρ S0 with
 | bad=>rwa [hf] at q
 | exc c S1=>rw [hf] at q;exact fun w1 R1 F1=>q w1 R1 (F0.trans F1)
 | ok ds S1 =>
  rw [hf] at q;intro vs w1 R1 F1 h1;dsimp only at q;refine ⟨?_,w1.base,w1.inn,d::ds,S1,rfl,R1.wd.enter,?_,?_⟩
  ·rw [yaV,yam,h1.length,zcz hf];exact hn
  ·rw [yaV];exact .cons ((h0.up F1).up (za6 w1)) (h1.up (za6 w1))
  cases hg:G (d::ds) S1 with
  | bad=>rwa [hg] at q
  | exc c S2 =>
   rw [hg] at q;intro w2 W2 F2;obtain ⟨R3,F3⟩:=R1.leave W2 F2;exact q (w1.back w2) R3 (F0.trans (F1.trans F3))
  | ok r S2 =>
   rw [hg] at q;intro v w2 W2 F2 r2;obtain ⟨R3,F3⟩:=R1.leave W2 F2;exact q v (w1.back w2) R3 (F0.trans (F1.trans F3)) (Shd.up (zbj W2) r2)
def zqq(q:tN cl E (zjM c m G fo fs) σ H Q)(hn:fs.length+1=n):zeX (cl c) m (zfU cl n true G) [] E (tE cl E fo) (tAs cl E fs) σ H Q:=by
 obtain ⟨B,w,ρ,S,rfl,R,q⟩:=q;refine ⟨B,w,ρ,S,rfl,R,?_⟩;unfold zjM at q
 cases hfo:fo ρ S with
 | bad=>rwa [hfo] at q
 | exc c S1=>rwa [hfo] at q
 | ok d S0 =>
 rw [hfo] at q;intro v w0 R0 F0 h0;dsimp only [Out.bind] at q
 cases hok:zfi c m d S0 with
 | false=>rw [hok] at q;exact q.elim
 | true =>
 rw [hok,if_pos rfl] at q;obtain ⟨a,dx,fs',rfl,hH,hm⟩:=zjc R0 h0 hok;refine ⟨a,dx,fs',rfl,hH,hm,B,w0,ρ,S0,rfl,R0,?_⟩
 cases hf:zag fs ρ S0 with
 | bad=>rwa [hf] at q
 | exc c S1=>rw [hf] at q;exact fun w1 R1 F1=>q w1 R1 (F0.trans F1)
 | ok ds S1 =>
  rw [hf] at q;intro vs w1 R1 F1 h1;dsimp only at q;refine ⟨?_,w1.base,w1.inn,d::ds,S1,rfl,R1.wd.enter,?_,?_⟩
  ·rw [yaV,yam,h1.length,zcz hf];exact hn
  ·rw [yaV];exact .cons ((h0.up F1).up (za6 w1)) (h1.up (za6 w1))
  cases hg:G (d::ds) S1 with
  | bad=>rwa [hg] at q
  | exc c S2 =>
   rw [hg] at q;intro w2 W2 F2;obtain ⟨R3,F3⟩:=R1.leave W2 F2;exact q (w1.back w2) R3 (F0.trans (F1.trans F3))
  | ok r S2 =>
   rw [hg] at q;intro v w2 W2 F2 r2;obtain ⟨R3,F3⟩:=R1.leave W2 F2;obtain ⟨a,o,i,rfl,k1,k2,t⟩:=r2;have hfr:w1.base.Fr a=none:=(W2.own a _ k1).elim (fun z=>by cases z) fun z=>z
   have k3:(w1.back w2).ow a=some .far:=by
    show (if (w1.base.Fr a).isSome=true then w1.ow a else Root.out (w2.ow a))=_;rw [hfr,k1];rfl
   have hb:B.Fr a=none:=by
    cases z:B.Fr a with
    | none=>rfl
    | some u=>rw [zbA R1.wd z] at hfr;cases hfr
   have hd:=zgj (w:=w1.back w2) (a:=a) (by rw [k3];exact yat _);have:=q a o ((w1.back w2).del a) (R3.del k3 hb) (F0.trans (F1.trans (F3.trans hd))) (if_pos rfl) ((t.up (zbj W2)).up hd);rwa [zie (w:=w1.back w2) k2] at this
def zuN(hdv:∀w,Shds cl w dvs dds)(q:tE cl E (eMk c dds G fs) σ H Q)(hn:fs.length+dds.length+1=n):zlY (cl c) (zfU cl n false G) dvs E (tAs cl E fs) σ H Q:=by
 obtain ⟨B,w,ρ,S,rfl,R,q⟩:=q;refine ⟨B,w,ρ,S,rfl,R,?_⟩;unfold eMk at q
 cases hf:zag fs ρ S with
 | bad=>rwa [hf] at q
 | exc c S1=>rwa [hf] at q
 | ok ds S1 =>
  rw [hf] at q;intro vs w1 R1 F1 h1;dsimp only [Out.bind] at q;intro x dx hx hdx ne;obtain ⟨R2,F2⟩:=R1.made (c:=c) hx hdx ne
  have hmu:(w1.addO x dx (cl c) S1.length).mu[S1.length]?=some x:=by
   show (w1.mu++[x])[S1.length]?=some x;rw [yav (by rw [R1.wd.len];exact yah _),R1.wd.len,yda];rfl
  refine ⟨?_,(w1.addO x dx (cl c) S1.length).base,(w1.addO x dx (cl c) S1.length).inn,.ref S1.length::(ds++dds),S1++[⟨c,[]⟩],rfl,R2.wd.enter,?_,?_⟩
  ·rw [yam,yau,h1.length,zcz hf,(hdv w1).length];exact hn
  ·exact .cons (.ref hmu) (((h1.up F2).up (za6 _)).append (hdv _))
  cases hg:G (.ref S1.length::(ds++dds)) (S1++[⟨c,[]⟩]) with
  | bad=>rwa [hg] at q
  | exc c S2 =>
   rw [hg] at q;intro w2 W2 F3;obtain ⟨R3,F4⟩:=R2.leave W2 F3;exact q ((w1.addO x dx _ S1.length).back w2) R3 (F1.trans (F2.trans F4))
  | ok r S2 =>
   rw [hg] at q;intro v w2 W2 F3 r2
   cases r with
   | non =>
    obtain ⟨R3,F4⟩:=R2.leave W2 F3;refine ⟨by cases r2;rfl,q (.ref x) ((w1.addO x dx _ S1.length).back w2) R3 (F1.trans (F2.trans F4)) (.ref (F4.mu _ _ hmu))⟩
   | _=>exact q.elim
end
end S2
namespace L2
open PySem PySem.Spec PyProof.Rows
section
variable{X:Cx}
noncomputable def zow(ns:List Int):Nat:=argBest (fun i j=>decide (ns.getD i 0<ns.getD j 0)) (ns.length-1)
def zrK(ns:List Int):Int:=ns.getD (zow ns) 0
def zjX(hc:X.calm=true):zbg X (.builtin "min") (fun xs H Q=>∃(p:Addr) (ns:List Int),xs=[.ref p]/\SqL X.K H p (ns.map V.int)/\ns≠[]/\Q (.int (zrK ns)) H):=by
 intro pins s σ H xs us Q I r h;obtain ⟨p,ns,rfl,hq,hne,q⟩:=h;obtain ⟨u,rfl,rx⟩:=zce r;cases rx;obtain ⟨its,rv,pl,hz⟩:=I.list hq;have hl:=pl.isList
 have hlt:p<s.heap.objs.size:=by obtain ⟨_,e,_⟩:=hl;exact yaj e
 have hn:its.length=ns.length:=by have:=rv.length;rw [yao] at this;exact this.symm
 have hpos:0<ns.length:=List.length_pos_iff.mpr hne
 have at_:∀(i:Nat) (v:Value),its[i]?=some v->i<ns.length/\∃t,v=.int (ns.getD i 0) t:=by
  intro i v hv
  have hi:i<ns.length:=by rw [<-hn];exact (yai.mp hv).1
  obtain ⟨u,hu,ru⟩:=rv.get (i:=i) (x:=.int ns[i]) (by rw [yaq,yac hi];rfl);rw [hv] at hu;cases hu;obtain ⟨t,rfl⟩:=ru;exact ⟨hi,t,by simp [List.getD,hi]⟩
 refine call_min_walk (yb7 hl ?_);refine ⟨s.heap.objs.size,[s.heap.objs.size,p],[s.heap.objs.size],its.toArray.size,_,_,fun i j=>decide (ns.getD i 0<ns.getD j 0),rfl,Walks.list (A:=X.A.in1) (I.ok.hd hc) _ p (yap hlt) its.toArray,⟨⟨_,yag _ rfl,rfl,rfl⟩,hl.push _⟩,fun b hm=>?_,by rw [yaf,hn];exact hpos,CmpOf.ints_lt (fun i=>ns.getD i 0) (fun i v hP=>?_),fun v h' tk hP hk=>?_⟩
 ·show b<(s.heap.push _).objs.size;rw [yaS];simp only [yan,yaJ,ybM] at hm
  rcases hm with z | z
  ·rw [z];exact ybj _
  ·rw [z];exact ybe hlt
 ·have hv:its[i]?=some v:=by simpa using hP
  exact (at_ i v hv).2
 ·rw [yaf,hn] at hP
  have hv:its[zow ns]?=some v:=by simpa [zow] using hP
  obtain ⟨_,t,rfl⟩:=at_ _ _ hv;refine ⟨.int (zrK ns),H,I.kept (t':=tk) fun b o e=>?_,⟨t,rfl⟩,q⟩;exact hk b o (fun hm=>by rw [yaX.mp hm] at e;exact yaL _ (yaj e)) (yad _ e)
end
end L2
namespace S2
open PySem PySem.Spec PyProof.Rows L2
noncomputable def zrZ:Operator->Option (Int->Int->Int) | .Add=>some (·+·) | .Sub=>some (· - ·) | _=>none
noncomputable def zpC(i:Nat)(g:Int->Int->Int)(fe:Fe):Fs:=fun ρ S=>match ρ[i]? with
 | some (some (false,.int a))=>(match fe ρ S with
  | .ok (.int b) S1=>.nx (ρ.set i (some (false,.int (g a b)))) S1
  | .ok _ _=>.bad
  | .exc c S1=>.ex c ρ S1
  | .bad=>.bad)
 | _=>.bad
noncomputable def lrD:D->Option D | .int n=>if decide (0<=n/\n<=1000) then some (.lst ((List.range n.toNat).map fun (i:Nat)=>D.int (i:Int))) else none | _=>none
section
variable{cl:Cf}{X:Cx}{E:St->XK}{e:Expr}{fe f:Fe}{pos:Pos}{own:Bool}
def zpg(hop:zrZ op=some g)(hN:X.N.Nodup)(hi:X.N[i]?=some x)(hx:Loc X.env.scope x)(he:PE X e (tE cl E fe))(hf:X.fn x=true\/X.env.scope.names.lookup x=some .local):PS X (.AugAssign (.Name x p) op e pos) (tS cl E own (zpC i g fe)):=by
 have main:∀ti:TIp,PIp X op ti->(∀a b H Q,Q (.int (g a b)) H->ti (.int a) (.int b) H Q)->PS X (.AugAssign (.Name x p) op e pos) (tS cl E own (zpC i g fe)):=by
  intro ti ho hti;refine PS.imp (zpP hN hi hx he ho hf) ?_;rintro De σ H ⟨B,w,ρ,S,rfl,R,q⟩;unfold zpC at q;split at q
  ·rename_i a ha;obtain ⟨v,ev,rv⟩:=R.slots i false _ ha;have rv':Shd cl w v (.int a):=rv;cases rv';refine ⟨_,ev,B,w,ρ,S,rfl,R,?_⟩
   cases hfe:fe ρ S with
   | bad=>rwa [hfe] at q
   | exc c S1=>rw [hfe] at q;exact fun w' R' F'=>q σ w' R' F'
   | ok d S1 =>
    rw [hfe] at q;intro y w1 R1 F1 h1
    cases d with
    | int b =>
     cases h1;exact hti a b _ _ (q _ w1 (R1.put (.int _)) F1)
    | _=>exact q.elim
  ·exact q.elim
 cases op<;>simp [zrZ] at hop<;>subst hop
 ·exact main zuE zqO fun a b H Q q=>⟨a,b,rfl,rfl,q⟩
 ·exact main zuD zqN fun a b H Q q=>⟨a,b,rfl,rfl,q⟩
theorem zfp:∀l:List Nat,Shds cl w (l.map fun (i:Nat)=>V.int (i:Int)) (l.map fun (i:Nat)=>D.int (i:Int))
 | []=>.nil
 | a::l=>.cons (.int _) (zfp l)
theorem zh1:bootBuiltins "list" = some (.type "list"):=by decide +kernel
theorem zsw(hc:X.calm=true)(hg:Gl X "list")(hm:X.mg "list" = none)(hg2:Gl X "range")(hm2:X.mg "range" = none)(he:PE X e (tE cl E f))(hs:starEach [e] X.env=[(false,eval e X.env)]) :
  PE X (.Call (.Name "list" p) [.Call (.Name "range" p2) [e] [] pos2] [] pos) (tN cl E (eUn lrD f)):=by
 refine PE.imp (zbP (zeN hc) hg hm zh1 (zat (zpS hg2 hm2 (zak he zbh hs) hs) zaV)) ?_;rintro σ H Q ⟨B,w,ρ,S,rfl,R,q⟩;refine ⟨B,w,ρ,S,rfl,R,?_⟩;unfold eUn at q
 cases hf:f ρ S with
 | bad=>rw [hf] at q;exact q.elim
 | exc c S1=>rw [hf] at q;simp only [zag,hf,Out.bind];exact q
 | ok d S1 =>
  rw [hf] at q;simp only [zag,hf,Out.bind];intro vs w1 R1 F1 sh;dsimp only [Out.bind] at q
  cases hl:lrD d with
  | none=>rw [hl] at q;exact q.elim
  | some r =>
   rw [hl] at q;unfold lrD at hl;split at hl
   ·rename_i n;split at hl
    ·rename_i hz;cases hl;have hz':=yal hz
     cases sh with
     | cons h1 hn =>
      cases hn;cases h1;refine ⟨n,rfl,hz'.1,hz'.2,fun pr hpr=>⟨pr,n.toNat,rfl,?_,by omega,fun l hl=>?_⟩⟩
      ·rw [show ((n.toNat:Nat):Int)=n by omega];exact zaj
      ·exact q l _ (w1.add pr (.rng 0 n)) (R1.grow (zah hpr _)) (F1.trans (zah hpr _).fut) hl (.lst (zfp _))
    ·cases hl
   ·cases hl
def zkZ:OpR X (compareOp .Is) (fun x y H Q=>∃i j,x=.bl i/\y=.bl j/\Q (.bl (decide (i=j))) H):=by
 intro pins s σ H x y v u Q I rx ry h;obtain ⟨i,j,rfl,rfl,q⟩:=h;cases rx;cases ry;refine wpAny_is_plain (by rfl) ?_;refine ⟨.bl (decide (i=j)),H,I,?_,q⟩;show _=Value.bool _;congr 1
 cases i<;>cases j<;>rfl
noncomputable def ztb:D->D->Option D | .bl a,.bl b=>some (.bl (decide (a=b))) | _,_=>none
def zqk:OpD X cl (compareOp .Is) ztb:=by
 intro pins s σ H x y v u Q I rx ry h;obtain ⟨w,d,e,r,rfl,hx,hy,hg,q⟩:=h;unfold ztb at hg;split at hg
 ·cases hg;obtain rfl:=hx.blI;obtain rfl:=hy.blI;exact zkZ pins s σ w.H _ _ v u Q I rx ry ⟨_,_,rfl,rfl,q _ w (Grow.refl _) (.bl _)⟩
 ·cases hg
def zk9:List D->Option D
 | [.lst l]=>(zbE l).bind fun ns=>if ns.isEmpty then none else some (.int (zrK ns))
 | ds=>zrL ds
def zoq(hc:X.calm=true):zdN X cl (.builtin "min") zk9:=by
 intro pins s σ H xs us Q I r h;obtain ⟨w,ds,d,rfl,hx,hg,q⟩:=h;unfold zk9 at hg;split at hg
 ·rename_i l
  cases hi:zbE l with
  | none=>rw [hi] at hg;cases hg
  | some ns =>
   rw [hi] at hg;have hg':(if ns.isEmpty then none else some (D.int (zrK ns)))=some d:=hg;split at hg'
   ·cases hg'
   ·rename_i hne;cases hg'
    cases hx with
    | cons h1 h2 =>
     cases h2;obtain ⟨p,ys,rfl,ep,rs⟩:=h1.lstI;obtain rfl:=zcw rs hi;exact zjX hc pins s σ w.H _ us Q I r ⟨p,ns,rfl,SqL.of ep,fun z=>hne (by rw [z];rfl),q _ w (Grow.refl _) (.int _)⟩
 ·exact zrb hc pins s σ w.H xs us Q I r ⟨w,_,d,rfl,hx,hg,q⟩
end
end S2
namespace L2
open PySem PySem.Spec PyProof.Rows
section
variable{X:Cx}{pins:Z3}{σ:St}{H:Hp}{s:Shared}{a:Addr}{ps:List (Option Int×Int)}
def Inv.do_addr(I:Inv X pins σ H s)(h:H a=some (.ext (DO X.prog X.w a' ps))):a'=a:=by
 apply Classical.byContradiction;intro hne;obtain ⟨dp,_,st⟩:=I.hok a _ h;obtain ⟨vs,⟨o,es,ep,h1,h2,h3⟩,_⟩:=id dp;have dp2:=st s.heap (s.heap.update a' fun _=>{ cls:=.type "list",data:=.seq #[] }) dp (fun q e=>(Heap.get?_update_ne _ _ _ _ (fun z=>hne z.symm)).trans e);obtain ⟨vs2,⟨o2,es2,ep2,g1,g2,_⟩,_⟩:=dp2;rw [yaY (fun _=>{ cls:=.type "list",data:=.seq #[] }) h1 rfl] at g1;cases g1;exact absurd g2.1 (by decide)
def zme(r:zaI (oV k) u):(zbl X.prog X.w).is k u=true:=by
 cases k with
 | none=>cases (show u=Value.none from r);rfl
 | some i =>
  obtain ⟨t,rfl⟩:=(show ∃t,u=Value.int i t from r);simp [zbl,zhI,Value.isInt]
noncomputable abbrev DoP:(Option Int×Value)->(Option Int×Int)->Prop:=fun v p=>v.1=p.1/\∃t,v.2=.int p.2 t
noncomputable def zpK(ps:List (Option Int×Int))(k:Option Int)(v:Int):List (Option Int×Int):=if (ps.any fun p=>decide (p.1=k)) then ps.map (fun p=>if p.1=k then (p.1,v) else p) else ps++[(k,v)]
noncomputable def zeA(ps:List (Option Int×Int))(k:Option Int):Option Int:=(ps.find? fun p=>decide (p.1=k)).map (·.2)
def zq4(r:Paired DoP vs ps)(k:Option Int):(vs.any fun v=>decide (v.1=k))=ps.any fun p=>decide (p.1=k):=by
 induction r with
 | nil=>rfl
 | cons h _ ih=>rw [List.any_cons,List.any_cons,ih,h.1]
def zom(r:Paired DoP vs ps)(k:Option Int)(v:Int)(t:Tok):Paired DoP (vs.map fun x=>if x.1=k then (x.1,.int v t) else x) (ps.map fun p=>if p.1=k then (p.1,v) else p):=by
 induction r with
 | nil=>exact .nil
 | @cons x p xs ps h _ ih =>
  rw [yaR,yaR];refine .cons ?_ ih;obtain ⟨h1,h2⟩:=h
  by_cases e:p.1=k
  ·rw [if_pos e,if_pos (h1.trans e)];exact ⟨h1,t,rfl⟩
  ·rw [if_neg e,if_neg (fun z=>e (h1.symm.trans z))];exact ⟨h1,h2⟩
def zq3(r:Paired DoP vs ps)(k:Option Int)(v:Int)(t:Tok):Paired DoP (stored vs k (.int v t)) (zpK ps k v):=by
 unfold stored zpK;rw [zq4 r k];split
 ·exact zom r k v t
 ·exact Paired.snoc r ⟨rfl,t,rfl⟩
def zq2(r:Paired DoP vs ps)(k:Option Int):(zeA ps k=none/\valueAt vs k=none)\/∃v t,zeA ps k=some v/\valueAt vs k=some (.int v t):=by
 induction r with
 | nil=>exact .inl ⟨rfl,rfl⟩
 | @cons x p xs ps h _ ih =>
  obtain ⟨h1,t,h2⟩:=h
  by_cases e:p.1=k
  ·refine .inr ⟨p.2,t,?_,?_⟩
   ·unfold zeA;rw [yct,ycE e];rfl
   ·have e':x.1=k:=h1.trans e;simp [valueAt,yct,e',h2]
  ·have e':¬ x.1=k:=fun z=>e (h1.symm.trans z)
   have b1:zeA (p::ps) k=zeA ps k:=by unfold zeA;rw [yct,ya4 e]
   have b2:valueAt (x::xs) k=valueAt xs k:=by simp [valueAt,yct,e']
   rw [b1,b2];exact ih
noncomputable def zo3(P:Program)(w:World):TE:=fun _ H Q=>∀p,H p=none->Q (.ref p) (upd H p (.ext (DO P w p [])))
def zkQ:PE X (.Dict [] [] pos) (zo3 X.prog X.w):=fun pins s σ H Q I h=>by
 have hne:(s.heap.objs.size == sysModules)=false:=ya0.mpr (Ne.symm (yap I.big));have dn:DO X.prog X.w s.heap.objs.size [] (s.heap.push { cls:=.type "dict",data:=.dict #[] }):=⟨[],Heap.DictOf.new s.heap,.nil,hne⟩;refine wpAny_Dict_empty ⟨.ref s.heap.objs.size,upd H s.heap.objs.size (.ext (DO X.prog X.w s.heap.objs.size [])),?_,rfl,h _ (I.hok.fresh (yah _))⟩;exact I.laid (a:=s.heap.objs.size) (t':=s.toks) (fun _ _ q=>yad _ q) (yah _) ⟨dn,⟨_,yag _ rfl⟩,zhe⟩
def zks:zr3 X (fun o i v H Q=>∃(a a':Addr) (k:Option Int) (n:Int) (ps:List (Option Int×Int)),o=.ref a/\i=oV k/\v=.int n/\H a=some (.ext (DO X.prog X.w a' ps))/\ps.length<=1000000/\Q (upd H a (.ext (DO X.prog X.w a' (zpK ps k n))))):=by
 intro pins s σ H o i v ov iv u Q I ro ri rv h;obtain ⟨a,a',k,n,ps,rfl,rfl,rfl,hx,hz,q⟩:=h;cases ro;obtain ⟨t,rfl⟩:=(show ∃t,u=Value.int n t from rv);obtain rfl:=I.do_addr hx;obtain ⟨⟨vs,dd,rel,hd⟩,_⟩:=I.hok _ _ hx;have hl:vs.length=ps.length:=Paired.length rel;refine wpAny_setItem_pairs (hsz:=by rw [hl];exact yas hz (by decide)) (zme ri) dd fun h' dd' hs=>⟨_,?_,q⟩
 have he:∃q,h'.get? a'=some q:=let ⟨q,_,_,hq,_⟩:=dd';⟨q,hq⟩
 exact I.write (x:=a') (e:=a') (by rw [hx];trivial) (.inl rfl) (fun b o hb z=>(hs.2 b hb).trans z) he ⟨⟨_,dd',zq3 rel k n t,hd⟩,he,zhe⟩
noncomputable def zo4(P:Program)(w:World)(td ty tx:TE):TE:=fun σ H Q=>td σ H fun x H1=>∃(a a':Addr) (ps:List (Option Int×Int)),x=.ref a/\H1 a=some (.ext (DO P w a' ps))/\ty σ H1 fun y H2=>tx σ H2 fun z H3=>∃k a2,y=oV k/\H3 a=some (.ext (DO P w a2 ps))/\Q (((zeA ps k).map V.int).getD z) H3
def zkR(ho:PE X o td)(he:PE X e ty)(hf:PE X f tx)(m:M2 X o "get" apos e f cpos):PE X (.Call (.Attribute o "get" apos) [e,f] [] cpos) (zo4 X.prog X.w td ty tx):=by
 intro pins s σ H Q I h;refine wpAny_Call_method m.base m.few m.line PySem.F.plainAttrs_dict PySem.F.slot_dict_get PySem.F.type_dict_get (thn (ho pins s σ H _ I h) fun u s1 ⟨x,H1,I1,rx,a,a',ps,ex,d,q1⟩=>?_);subst ex;obtain rfl:u=Value.ref a:=rx;obtain rfl:=I1.do_addr d;obtain ⟨⟨vs,dd,_,_⟩,_⟩:=I1.hok _ _ d;refine ⟨dd.typeIs,fun b q=>?_,?_⟩
 ·cases q;obtain ⟨ob,_,_,h1,h2,_⟩:=dd;exact ⟨ob,h1,h2.2.1⟩
 rw [m.trees]
 refine ycA rfl (ycc (yco (thn (he pins s1 σ H1 _ I1 q1) fun iv s2 ⟨y,H2,I2,ry,q2⟩ =>
  yco (thn (hf pins s2 σ H2 _ I2 q2) fun fv s3 ⟨z,H3,I3,rz,k,a2,ey,d3,q3⟩=>yde ?_))))
 subst ey;obtain rfl:=I3.do_addr d3;obtain ⟨⟨vs3,dd3,rel,hd⟩,_⟩:=I3.hok _ _ d3;refine call_meetsIn PySem.F.slot_dict_get dd3.typeIs PySem.F.entry_dict_get (PySem.F.args_dict_get_3 _ _ _) (meets_dict_get_default (zbl X.prog X.w) _ (zme ry) hd fv) ⟨_,dd3.mapOf,_,_,I3.tok _,?_,q3⟩
 rcases zq2 rel k with ⟨e1,e2⟩ | ⟨v,t,e1,e2⟩
 ·rw [e1,e2];exact rz
 ·rw [e1,e2];exact ⟨t,rfl⟩
end
end L2
namespace S2
open PySem PySem.Spec PyProof.Rows L2
noncomputable def asO:D->Option (Option Int) | .non=>some none | .int i=>some (some i) | _=>none
def zj9(h:Shd cl w v d)(e:asO d=some k):v=oV k:=by
 cases h<;>first | (cases e;done) | (cases e;rfl)
def psO:List (D×D)->Option (List (Option Int×Int))
 | []=>some []
 | (k,.int v)::l=>(asO k).bind fun k=>(psO l).bind fun ps=>some ((k,v)::ps)
 | _=>none
theorem zet:∀ps:List (Option Int×Int),psO (ps.map fun p=>(oI p.1,.int p.2))=some ps
 | []=>rfl
 | (none,v)::ps=>by
  show (psO (ps.map _)).bind _=_;rw [zet ps];rfl
 | (some i,v)::ps=>by
  show (psO (ps.map _)).bind _=_;rw [zet ps];rfl
theorem zmb:∀{ds:List (D×D)} {ps:List (Option Int×Int)},psO ds=some ps->ds=ps.map fun p=>(oI p.1,.int p.2)
 | [],ps,h=>by cases h;rfl
 | (k,v)::l,ps,h=>by
  cases v with
  | int n =>
   obtain ⟨k',h1,h⟩:=ybU.mp (show ((asO k).bind fun k=>(psO l).bind fun ps=>some ((k,n)::ps))=some ps from h);obtain ⟨qs,h2,h⟩:=ybU.mp h;cases h;rw [zmb h2]
   cases k<;>first | (cases h1;done) | (cases h1;rfl)
  | _=>cases h
def zoM(ps:List (Option Int×Int)):D:=.dic ((.bl true,.non)::odD ps)
noncomputable def zlm:D->Option (List (Option Int×Int)) | .dic ((.bl true,.non)::(.non,.non)::ds)=>psO ds | _=>none
def zll(h:zlm d=some ps):d=zoM ps:=by
 unfold zlm at h;split at h
 ·rw [zmb h];rfl
 ·cases h
def zhB(i:Nat)(ρ:Env):Option (Bool×List (Option Int×Int)):=match ρ[i]? with | some (some (o,d))=>(zlm d).map fun ps=>(o,ps) | _=>none
def zgK(h:zhB i ρ=some (o,ps)):ρ[i]?=some (some (o,zoM ps)):=by
 unfold zhB at h;split at h
 ·rename_i o' d e
  cases hd:zlm d with
  | none=>rw [hd] at h;cases h
  | some x=>rw [hd] at h;cases h;rw [e,zll hd]
 ·cases h
section
variable{X:Cx}{cl:Cf}{E:St->XK}{w:Wd}
def zmw(h:Exd cl w o (odD ps)):∃a',o=.ext (DO cl.P cl.wo a' ps):=by
 generalize hq:odD ps=ds at h
 cases h with
 | @pd a xs h =>
  cases xs with
  | nil=>cases hq
  | cons x xs=>cases hq
 | @od a ps' =>
  have e:=(List.cons.inj hq).2;have:=congrArg psO e;rw [zet,zet] at this;cases this;exact ⟨a,rfl⟩
def Rel.dco(R:Rel cl B σ w ρ S)(h:ρ[i]?=some (some (o,zoM ps))):∃a a',σ[i]?=some (some (.ref a))/\(o=true->w.ow a=some (.slot i))/\w.H a=some (.ext (DO cl.P cl.wo a' ps)):=by
 obtain ⟨v,e1,r⟩:=R.slots i o _ h
 cases o with
 | false =>
  have r':Shd cl w v (.dic ((.bl true,.non)::odD ps)):=r;generalize hq:odD ps=q at r'
  cases r' with
  | dicK _ _ z=>cases z
  | dicX e _ x =>
   rw [<-hq] at x;obtain ⟨a',rfl⟩:=zmw x;exact ⟨_,a',e1,(fun z=>nomatch z),e⟩
 | true =>
  obtain ⟨a,o,rfl,h1,h2,t⟩:=r;have t':Top cl w o (.dic ((.bl true,.non)::odD ps)):=t;generalize hq:odD ps=q at t'
  cases t' with
  | dicK z=>cases z
  | dicX x =>
   rw [<-hq] at x;obtain ⟨a',rfl⟩:=zmw x;exact ⟨a,a',e1,fun _=>h1,h2⟩
def zlu:Fe:=fun _ S=>.ok (zoM []) S
def zf5(sm:Same' cl X):PE X (.Dict [] [] pos) (tN cl E zlu):=PE.imp zkQ fun σ H Q ⟨B,w,ρ,S,e,R,q⟩=>by
 subst e;intro p hp;rw [sm.pp,sm.ww];exact q p _ w R (Fut.refl _) hp (.dicX (ds:=odD []) .od)
def zjN(i:Nat)(f g:Fe):Fe:=fun ρ S=>match zhB i ρ with
 | some p=>(f ρ S).bind fun k S1=>(g ρ S1).bind fun z S2=>(match asO k with | some j=>.ok (((zeA p.2 j).map D.int).getD z) S2 | none=>.bad)
 | none=>.bad
def zkz(i:Nat)(fk fe:Fe):Fs:=fun ρ S=>match zhB i ρ with
 | some (true,ps)=>(match fe ρ S with
  | .ok d S1=>(match fk ρ S1 with
   | .ok k S2=>(match asO k,d with
    | some j,.int v=>if small ps.length then .nx (ρ.set i (some (true,zoM (zpK ps j v)))) S2 else .bad
    | _,_=>.bad)
   | .exc c S2=>.ex c ρ S2 | .bad=>.bad)
  | .exc c S1=>.ex c ρ S1 | .bad=>.bad)
 | _=>.bad
variable{own:Bool}{a b e:Expr}{f g fe fk:Fe}{pos pos':Pos}{i:Nat}{x:Str}{ap cp:Pos}
def znn(sm:Same' cl X)(hN:X.N[i]?=some x)(hv:Vis X.env.scope x)(hd:(x == ("__debug__":Str))=false)(hcd:(x == ("__classdict__":Str))=false)(hf:PE X a (tE cl E f))(hg:PE X b (tE cl E g))(m:M2 X (.Name x pos') "get" ap a b cp) :
  PE X (.Call (.Attribute (.Name x pos') "get" ap) [a,b] [] cp) (tE cl E (zjN i f g)):=by
 refine PE.imp (zkR (zaU hN hv hd hcd) hf hg m) ?_;rintro σ H Q ⟨B,w,ρ,S,rfl,R,q⟩;unfold zjN at q
 cases hs:zhB i ρ with
 | none=>rw [hs] at q;exact q.elim
 | some p =>
  obtain ⟨o,ps⟩:=p;rw [hs] at q;have hρ:=zgK hs;obtain ⟨ad,a',e1,h1,h2⟩:=R.dco hρ;refine ⟨_,e1,ad,a',ps,rfl,by rw [sm.pp,sm.ww];exact h2,B,w,ρ,S,rfl,R,?_⟩
  cases hfv:f ρ S with
  | bad=>rwa [hfv] at q
  | exc c S1=>rwa [hfv] at q
  | ok k S1 =>
   rw [hfv] at q;dsimp only [Out.bind] at q;intro y w1 R1 F1 sy;refine ⟨B,w1,ρ,S1,rfl,R1,?_⟩
   cases hgv:g ρ S1 with
   | bad=>rwa [hgv] at q
   | exc c S2=>rw [hgv] at q;exact fun w2 R2 F2=>q w2 R2 (F1.trans F2)
   | ok z S2 =>
    rw [hgv] at q;dsimp only at q;intro zv w2 R2 F2 sz
    cases hk:asO k with
    | none=>rw [hk] at q;exact q.elim
    | some j =>
     rw [hk] at q;dsimp only at q;have ey:=zj9 sy hk;subst ey;obtain ⟨ad',a2,e1',_,h2'⟩:=R2.dco hρ;rw [e1] at e1';cases e1';refine ⟨j,a2,rfl,by rw [sm.pp,sm.ww];exact h2',?_⟩
     cases hl:zeA ps j with
     | none=>rw [hl] at q;exact q zv w2 R2 (F1.trans F2) sz
     | some n=>rw [hl] at q;exact q (.int n) w2 R2 (F1.trans F2) (.int n)
def zm1(sm:Same' cl X)(hN:X.N[i]?=some x)(hv:Vis X.env.scope x)(hd:(x == ("__debug__":Str))=false)(hcd:(x == ("__classdict__":Str))=false)(hk:PE X a (tE cl E fk))(he:PE X e (tE cl E fe))(sw:swapsWithSole [.Subscript (.Name x pos') a p3] e pos.line X.env=pure false)(sw2:swappedStores [.Subscript (.Name x pos') a p3] e X.env=pure none)
  (ha:∀v,assign (.Subscript (.Name x pos') a p3) X.env v=(do
   let ov ← holding [v] (eval (.Name x pos') X.env)
   let iv ← holding [v,ov] (eval a X.env)
   standAt p3
   holding [v,ov,iv] (setItem ov iv v)
   release [v,ov,iv] [])) :
  PS X (.Assign [.Subscript (.Name x pos') a p3] e pos) (tS cl E own (zkz i fk fe)):=by
 refine PS.imp (zd0 he (ziW (zaU hN hv hd hcd) hk zks ha) sw sw2 rfl) ?_;rintro De σ H ⟨B,w,ρ,S,rfl,R,q⟩;unfold zkz at q
 cases hs:zhB i ρ with
 | none=>rw [hs] at q;exact q.elim
 | some p =>
  obtain ⟨o,ps⟩:=p
  cases o with
  | false=>rw [hs] at q;exact q.elim
  | true =>
   rw [hs] at q;have hρ:=zgK hs;refine ⟨B,w,ρ,S,rfl,R,?_⟩
   cases hev:fe ρ S with
   | bad=>rwa [hev] at q
   | exc c S1=>rw [hev] at q;exact fun w' R' F'=>q σ w' R' F'
   | ok d S1 =>
    rw [hev] at q;intro v w1 R1 F1 sv;obtain ⟨ad,a',e1,_,_⟩:=R1.dco hρ;refine ⟨_,e1,B,w1,ρ,S1,rfl,R1,?_⟩;dsimp only at q
    cases hkv:fk ρ S1 with
    | bad=>rwa [hkv] at q
    | exc c S2=>rw [hkv] at q;exact fun w' R' F'=>q σ w' R' (F1.trans F')
    | ok k S2 =>
     rw [hkv] at q;intro y w2 R2 F2 sy;dsimp only at q
     cases hk':asO k with
     | none=>rw [hk'] at q;exact q.elim
     | some j =>
      rw [hk'] at q
      cases d with
      | int n =>
       dsimp only at q;split at q
       ·rename_i hsm;have ey:=zj9 sy hk';subst ey;cases sv;obtain ⟨ad',a2,e1',ho,h2'⟩:=R2.dco hρ;rw [e1] at e1';cases e1';refine ⟨ad,a2,j,n,ps,rfl,rfl,rfl,by rw [sm.pp,sm.ww];exact h2',yas (yal hsm) (by decide),?_⟩;rw [sm.pp,sm.ww];exact q σ _ (R2.mut (d0:=.non) e1 (ho rfl) (.dicX (ds:=odD (zpK ps j n)) .od)) ((F1.trans F2).trans (zbe (by rw [ho rfl];exact yat _)))
       ·exact q.elim
      | _=>exact q.elim
end
noncomputable def zg3(i j:Nat)(ρ:Env):Option (List D×List D):=match ρ[i]?,ρ[j]? with
 | some (some (true,.lst l)),some (some (true,.lst m))=>if i=j then none else some (l,m)
 | _,_=>none
def zjj(h:zg3 i j ρ=some p):ρ[i]?=some (some (true,.lst p.1))/\ρ[j]?=some (some (true,.lst p.2))/\i≠j:=by
 unfold zg3 at h;split at h
 ·rename_i e1 e2;split at h
  ·cases h
  ·rename_i hn;cases h;exact ⟨e1,e2,hn⟩
 ·cases h
def zf6(i j:Nat)(f:Fe):Fs:=fun ρ S=>match zg3 i j ρ with
 | some p=>(match f ρ S with
  | .ok d S1=>(match d with
   | .int q=>(match (if 0<=q/\small p.1.length=true/\small p.2.length=true then p.2[q.toNat]? else none) with
    | some y=>.nx ((ρ.set j (some (true,.lst (p.2.eraseIdx q.toNat)))).set i (some (true,.lst (p.1++[y])))) S1
    | none=>.bad)
   | _=>.bad)
  | .exc c S1=>.ex c ρ S1 | .bad=>.bad)
 | none=>.bad
section
variable{X:Cx}{cl:Cf}{E:St->XK}{own:Bool}{e:Expr}{f:Fe}{pos px py:Pos}{i j:Nat}{x y:Str}{ap cp ap2 cp2:Pos}{w:Wd}
theorem zdW:∀{vs:List V} {ds:List D} (k:Nat),Shds cl w vs ds->Shds cl w (vs.eraseIdx k) (ds.eraseIdx k)
 | _,_,k,.nil=>by cases k<;>exact .nil
 | _,_,0,.cons _ t=>t
 | _,_,k+1,.cons h t=>.cons h (zdW k t)
theorem zm7(hN:X.N[i]?=some x)(hv:Vis X.env.scope x)(hd:(x == ("__debug__":Str))=false)(hcd:(x == ("__classdict__":Str))=false)(hN2:X.N[j]?=some y)(hv2:Vis X.env.scope y)(hd2:(y == ("__debug__":Str))=false)(hcd2:(y == ("__classdict__":Str))=false)(he:PE X e (tE cl E f))
  (hpl:zaB e=true) (hln:(ap.endLine == cp.line)=true) (hln2:(ap2.endLine == cp2.line)=true):PS X (.Expr (.Call (.Attribute (.Name x px) "append" ap) [.Call (.Attribute (.Name y py) "pop" ap2) [e] [] cp2] [] cp) pos) (tS cl E own (zf6 i j f)):=by
 have hin:=zhH (es:=[]) (apos:=ap2) (cpos:=cp2) ybg PySem.F.slot_list_pop PySem.F.type_list_pop zk7 (zaU (pos:=py) hN2 hv2 hd2 hcd2) (zat he zaV (zap hpl)) (hfew:=zc3 (by simp [hpl]) (by simp)) (hline:=hln2) (hs:=zap hpl) (hplain:=rfl);refine PS.imp (zdk (zhH (es:=[]) ybg PySem.F.slot_list_append PySem.F.type_list_append zfg (zaU hN hv hd hcd) (zat hin zaV rfl) (hfew:=zc3 rfl (by simp)) (hline:=hln) (hs:=rfl) (hplain:=rfl)) rfl) ?_;rintro De σ H ⟨B,w,ρ,S,rfl,R,q⟩;unfold zf6 at q
 cases hl2:zg3 i j ρ with
 | none=>rw [hl2] at q;exact q.elim
 | some p =>
  obtain ⟨l,m⟩:=p;rw [hl2] at q;obtain ⟨hi,hj,hij⟩:=zjj hl2;dsimp only at hi hj q;obtain ⟨a,xs,e1,h1,h2,t⟩:=R.list hi;obtain ⟨b,ys,e2,g1,g2,t2⟩:=R.list hj;refine ⟨_,e1,.inl ⟨rfl,_,SqL.of h2⟩,_,e2,.inl ⟨rfl,_,SqL.of g2⟩,B,w,ρ,S,rfl,R,?_⟩
  cases hf:f ρ S with
  | bad=>rwa [hf] at q
  | exc c S1=>rw [hf] at q;exact fun w' R' F'=>q σ w' R' F'
  | ok d S1 =>
   rw [hf] at q;intro v w' R' F' h'
   cases d with
   | int k =>
    cases h';dsimp only at q
    cases hy:(if 0<=k/\small l.length=true/\small m.length=true then m[k.toNat]? else none) with
    | none=>rw [hy] at q;exact q.elim
    | some d =>
     rw [hy] at q;dsimp only at q;split at hy
     ·rename_i hb;obtain ⟨b',ys',e2',g1',g2',t2'⟩:=R'.list hj;rw [e2] at e2';cases e2';have hlt:k.toNat<m.length:=(yai.mp hy).1;have hlen:=t2'.length;have hys:ys'[k.toNat]?=some (ys'[k.toNat]'(by omega)):=yac (by omega);obtain ⟨d',ed,sd⟩:=t2'.get hys;rw [hy] at ed;cases ed;have hm:=zav hb.2.2;refine ⟨b,ys',k,k.toNat,_,rfl,rfl,g2',by omega,by have:m.length<=100000:=yal hb.2.2;omega,?_,hys,?_⟩
      ·unfold seqIndex?;rw [if_neg (show ¬ k<0 by omega)];dsimp only;rw [show (decide (0<=k)&&decide (k<((ys'.length:Nat):Int)))=true by rw [yab,yaB,yaB];omega];rfl
      have ff:Fut w' (w'.mut b (.lst (ys'.eraseIdx k.toNat))):=zbe (by rw [g1'];exact yat _);have R2:=R'.mut (d0:=.non) e2 g1' (.lst (zdW k.toNat t2'))
      have hi2:(ρ.set j (some (true,D.lst (m.eraseIdx k.toNat))))[i]?=some (some (true,.lst l)):=by rw [yaQ (fun z=>hij z.symm)];exact hi
      obtain ⟨a2,xs2,e12,h12,h22,t12⟩:=R2.list hi2;rw [e1] at e12;cases e12;refine ⟨a,xs2,_,rfl,rfl,h22,by rw [t12.length];exact zgJ hb.2.1,?_⟩;exact q σ _ (R2.mut (d0:=.non) e1 h12 (.lst (t12.append (.cons (sd.up ff) .nil)))) (F'.trans (ff.trans (zbe (by rw [h12];exact yat _))))
     ·cases hy
   | _=>exact q.elim
end
noncomputable def znr(i j:Nat)(f:Fe):Fs:=fun ρ S=>match f ρ S with
 | .ok d S1=>.nx ((ρ.set i (some (true,d))).set j (some (true,.lst []))) S1
 | .exc c S1=>.ex c ρ S1 | .bad=>.bad
noncomputable def zns(h i j:Nat)(f1 f2:Fe):Fs:=fun ρ S=>match f1 ρ S with
 | .ok d1 S1=>(match f2 ρ S1 with
  | .ok d2 S2=>.nx (((ρ.set h (some (false,d1))).set i (some (true,d2))).set j (some (true,.lst []))) S2
  | .exc c S'=>.ex c ρ S' | .bad=>.bad)
 | .exc c S'=>.ex c ρ S' | .bad=>.bad
noncomputable def ztw(nm:List (Str×NameKind))(ts:List Expr):Bool:=ts.any fun | .Name x _=>!decide (nm.lookup x=some .local) | _=>false
theorem zqU{α β:Type}(f:α->Option β):∀(l:List α),(∃a∈l,f a=none)->(l.filterMap f).length<l.length
 | [],h=>by obtain ⟨_,h,_⟩:=h;cases h
 | a::l,h=>by
  rw [yam,ybG];have hle:=List.length_filterMap_le f l
  cases ha:f a with
  | none=>exact Nat.lt_succ_of_le hle
  | some b =>
   show (l.filterMap f).length+1<_;obtain ⟨c,hc,e⟩:=h
   rcases yan.mp hc with rfl | hc
   ·rw [ha] at e;cases e
   ·have:=zqU f l ⟨c,hc,e⟩;omega
section
variable{X:Cx}{cl:Cf}{E:St->XK}{own:Bool}{nm:List (Str×NameKind)}
def zgq(hs:X.env.scope.names=nm)(h:ztw nm ts=true):swappedStores [.Tuple ts k p] (.Tuple vs k2 p2) X.env=pure none:=by
 unfold swappedStores;dsimp only;split
 ·rfl
 ·split
  ·rfl
  ·split
   ·rfl
   ·rename_i hn;exfalso;apply hn;rw [ycZ];left;rw [bne_iff_ne];apply yap;apply zqU;unfold ztw at h;rw [List.any_eq_true] at h;obtain ⟨x,hx,hb⟩:=h;refine ⟨x,hx,?_⟩
    cases x with
    | Name y q =>
     have hb':¬ nm.lookup y=some .local:=by simpa using hb
     have:¬ X.env.kindOf y=some .local:=by unfold Env.kindOf;rw [hs];exact hb'
     simp [this]
    | _=>cases hb
def zin:swapsWithSole [.Tuple es kk p] e l env=pure false:=by cases e<;>rfl
variable{i j h:Nat}{x y z:Str}{a e:Expr}{f f1:Fe}{px py pz pt pt2 p2 pos:Pos}{kt k2:Nat}
def zsM(hc:X.calm=true)(hN:X.N.Nodup)(hi:X.N[i]?=some x)(hj:X.N[j]?=some y)(hx:L2.Loc X.env.scope x)(hy:L2.Loc X.env.scope y)(hfx:X.fn x=true\/X.env.scope.names.lookup x=some .local)(hfy:X.fn y=true\/X.env.scope.names.lookup y=some .local)(he:PE X e (tN cl E f))(hpl:zaB e=true)(hw:swappedStores [.Tuple [.Name x px,.Name y py] kt pt] (.Tuple [e,.List [] p2] k2 pt2) X.env=pure none) :
  PS X (.Assign [.Tuple [.Name x px,.Name y py] kt pt] (.Tuple [e,.List [] p2] k2 pt2) pos) (tS cl E own (znr i j f)):=by
 refine PS.imp (zd0 (ziY (zat he (zat (zi0 zaV) zaV (zap rfl)) (zap hpl))) (ziV hc (zbY (zch hN hi hx hfx) (zbY (zch hN hj hy hfy) zga))) zin hw rfl) ?_;rintro De σ H ⟨B,w,ρ,S,rfl,R,q⟩;unfold znr at q;refine ⟨B,w,ρ,S,rfl,R,?_⟩
 cases hf:f ρ S with
 | bad=>rwa [hf] at q
 | exc c S1=>rw [hf] at q;exact fun w' R' F'=>q σ w' R' F'
 | ok d S1 =>
  rw [hf] at q;intro q1 o w1 R0 F0 h1 t1;refine ⟨by show (0:Nat)<=sizeLine;decide,fun q2 h2=>?_⟩;refine ⟨by show (2:Nat)<=sizeLine;decide,fun q3 h3=>?_⟩;have R1:=R0.own (i:=i) (d:=d) h1 t1;have F1:=zaE (w:=w1) (p:=q1) (o:=o) (r:=.slot i) h1;have R2:=R1.own (i:=j) (d:=.lst []) (p:=q2) (o:=.lst []) h2 (.lst .nil);have F2:=zaE (w:=w1.addAs q1 o (.slot i)) (p:=q2) (o:=.lst []) (r:=.slot j) h2;have gr:=zah (w:=(w1.addAs q1 o (.slot i)).addAs q2 (.lst []) (.slot j)) (p:=q3) h3 (.tup [V.ref q1,V.ref q2]);exact ⟨q3,[.ref q1,.ref q2],rfl,.inl (.inl zaj),rfl,.ref q1,[.ref q2],rfl,.ref q2,[],rfl,rfl,q _ _ (R2.grow gr) (F0.trans ((F1.trans F2).trans gr.fut))⟩
def zsN(hc:X.calm=true)(hN:X.N.Nodup)(hh:X.N[h]?=some z)(hi:X.N[i]?=some x)(hj:X.N[j]?=some y)(hz:L2.Loc X.env.scope z)(hx:L2.Loc X.env.scope x)(hy:L2.Loc X.env.scope y)(hfz:X.fn z=true\/X.env.scope.names.lookup z=some .local)(hfx:X.fn x=true\/X.env.scope.names.lookup x=some .local)(hfy:X.fn y=true\/X.env.scope.names.lookup y=some .local)(ha:PE X a (tE cl E f1))(hpa:zaB a=true)(he:PE X e (tN cl E f))(hpl:zaB e=true)(hw:swappedStores [.Tuple [.Name z pz,.Name x px,.Name y py] kt pt] (.Tuple [a,e,.List [] p2] k2 pt2) X.env=pure none) :
  PS X (.Assign [.Tuple [.Name z pz,.Name x px,.Name y py] kt pt] (.Tuple [a,e,.List [] p2] k2 pt2) pos) (tS cl E own (zns h i j f1 f)):=by
 refine PS.imp (zd0 (ziY (zat ha (zat he (zat (zi0 zaV) zaV (zap rfl)) (zap hpl)) (zap hpa))) (ziV hc (zbY (zch hN hh hz hfz) (zbY (zch hN hi hx hfx) (zbY (zch hN hj hy hfy) zga)))) zin hw rfl) ?_;rintro De σ H ⟨B,w,ρ,S,rfl,R,q⟩;unfold zns at q;refine ⟨B,w,ρ,S,rfl,R,?_⟩
 cases hg:f1 ρ S with
 | bad=>rwa [hg] at q
 | exc c S1=>rw [hg] at q;exact fun w' R' F'=>q σ w' R' F'
 | ok d0 S0 =>
 rw [hg] at q;dsimp only at q;intro v0 w0 Ra Fa sh;refine ⟨B,w0,ρ,S0,rfl,Ra,?_⟩
 cases hf:f ρ S0 with
 | bad=>rwa [hf] at q
 | exc c S1=>rw [hf] at q;exact fun w' R' F'=>q σ w' R' (Fa.trans F')
 | ok d S1 =>
  rw [hf] at q;intro q1 o w1 R0 F0 h1 t1;refine ⟨by show (0:Nat)<=sizeLine;decide,fun q2 h2=>?_⟩;refine ⟨by show (3:Nat)<=sizeLine;decide,fun q3 h3=>?_⟩;have R1:=(R0.put (i:=h) (sh.up F0)).own (i:=i) (d:=d) h1 t1;have F1:=zaE (w:=w1) (p:=q1) (o:=o) (r:=.slot i) h1;have R2:=R1.own (i:=j) (d:=.lst []) (p:=q2) (o:=.lst []) h2 (.lst .nil);have F2:=zaE (w:=w1.addAs q1 o (.slot i)) (p:=q2) (o:=.lst []) (r:=.slot j) h2;have gr:=zah (w:=(w1.addAs q1 o (.slot i)).addAs q2 (.lst []) (.slot j)) (p:=q3) h3 (.tup [v0,V.ref q1,V.ref q2]);exact ⟨q3,[v0,.ref q1,.ref q2],rfl,.inl (.inl zaj),rfl,v0,[.ref q1,.ref q2],rfl,.ref q1,[.ref q2],rfl,.ref q2,[],rfl,rfl,q _ _ (R2.grow gr) (Fa.trans (F0.trans ((F1.trans F2).trans gr.fut)))⟩
end
end S2
namespace L2
open PySem PySem.Spec PyProof.Rows SeqAt
theorem zeh(l:Addr)(items:Array Value)(n:Nat)(dd:Option Addr)(sl:Array (Option Value))(x:Value)(e:Value->Bool)(j:Nat)(hj:j<items.size)(hit:e items[j]=true)(hno:∀m (hm:m<items.size),m<j->e items[m]=false) :
  Meets (Builtin.«tuple.index» ⟨[.ref l,x],[]⟩)
   (fun A R s=>s.heap.get? l=some { cls:=.type "tuple",dict:=dd,data:=.seq items n,slots:=sl }/\(∀y,y∈items->EqAt A.in1 s y x (e y))/\R (.ok (.ret (.int j s.toks))) { s with toks:=s.toks+1 }) :=
 .of_wp fun prog w A R s h=>by
  obtain ⟨hp,g,d,tk,os⟩:=s;obtain ⟨hl,he,h⟩:=h;unfold Builtin.«tuple.index»;simp only [Std.Legacy.Range.forIn_eq_forIn_range',Std.Legacy.Range.size,Nat.sub_zero,Nat.add_sub_cancel,Nat.div_one]
  wp_walk using wpAny_loadPart' hl,ycO _ (fun za9 b s'=>b.1=none/\s'=⟨hp,g,d,tk,os⟩/\∃i,i<=j/\za9=List.range' i (items.size-i)) _
  case turn =>
   rintro y za9 b s' ⟨hb,rfl,i,hi,hr⟩
   have e0:items.size-i=(items.size-(i+1))+1:=by omega
   rw [e0,List.range'_succ] at hr
   injection hr with h1 h2
   subst h1
   have hlt:y<items.size:=by omega
   rw [yaU hlt];refine yaa (he _ (Array.getElem_mem hlt) prog w _ _ ?_)
   by_cases hyj:y=j
   ·subst hyj;rw [hit]
    wp_walk
    exact ⟨_,rfl,h⟩
   ·rw [hno y hlt (by omega)]
    wp_walk
    exact ⟨rfl,rfl,y+1,by omega,h2⟩
  case fin =>
   rintro ⟨b1,b2⟩ s' ⟨hb',rfl,i,hz,hR⟩;exfalso
   have e0:items.size-i=(items.size-(i+1))+1:=by omega
   rw [e0,List.range'_succ] at hR;cases hR
  case h =>
   exact ⟨rfl,rfl,0,ya1 _,by simp⟩
section
variable{X:Cx}{pins:Z3}{σ:St}{H:Hp}{s:Shared}{l:Addr}{xs:List V}
def Inv.tupM(I:Inv X pins σ H s)(hH:H l=some (.tup xs)):∃(its:List Value) (n:Nat) (sl:Array (Option Value)),Vals xs its/\s.heap.get? l=some { cls:=.type "tuple",dict:=none,data:=.seq its.toArray n,slots:=sl }:=by
 obtain ⟨_,its,r,o,h1,h2,n,h3,h4⟩:=(show zaX X.prog X.w H s.heap l (.tup xs) from I.hok l _ hH);obtain ⟨c,d,da,sl⟩:=o;cases h2;cases h3;cases h4;exact ⟨its,n,sl,r,h1⟩
noncomputable def zwq(r:V->List V->Hp->VK->Prop)(to:TE)(t:TA):TE:=fun σ H Q=>to σ H fun x H1=>(∃a xs,x=.ref a/\H1 a=some (.tup xs))/\t σ H1 fun xs H2=>r x xs H2 Q
variable{o e:Expr}{es:List Expr}{to:TE}{t:TA}{name:Str}{apos cpos:Pos}{id:String}{r:V->List V->Hp->VK->Prop}
def zpZ(slot:Slot "tuple" name id)(hty:typeOf (.builtin id)=pure (.type "method_descriptor"))(hm:MtM X id r)(ho:PE X o to)(ha:PA X (e::es) t)
  (hbase:attributeBase o name X.env (eval o X.env)=eval o X.env:=by rfl)
  (hfew:((backTo cpos (starEach (e::es) X.env)).all (fun x=>!x.1)&&(backToKw cpos (keywordEach [] X.env)).all (fun x=>x.1.isSome)
   && decide ((e::es).length+([]:List Keyword).length+(if ([]:List Keyword).isEmpty then 0 else 1)<30))=true:=by rfl)
  (hline:(apos.endLine == cpos.line)=true:=by rfl) (hs:starEach (e::es) X.env=(false,eval e X.env)::starEach es X.env:=by rfl) (hplain:(backTo cpos (starEach es X.env)).any (·.1)=false:=by rfl) :
  PE X (.Call (.Attribute o name apos) (e::es) [] cpos) (zwq r to t):=by
 intro pins s σ H Q I h;refine wpAny_Call_method_late hbase hfew hline rfl (thn (ho pins s σ H _ I h) fun v s1 ⟨x,H1,I1,r1,ty,q1⟩=>?_);obtain ⟨a,ys,rfl,hH⟩:=ty;obtain ⟨its,n,sl,_,hg⟩:=I1.tupM hH;cases (show v=Value.ref a from r1);refine ⟨"tuple",id,PySem.F.plainAttrs_tuple,slot,hty,⟨_,hg,rfl⟩,fun b z=>by cases z;exact ⟨_,hg,rfl⟩,?_⟩;have hA:=ha cpos pins s1 σ H1 _ I1 q1;rw [hs] at hA ⊢;refine ycA (by show (false||(backTo cpos (starEach es X.env)).any (·.1))=false;rw [hplain]<;>rfl) (ycc ?_);exact thn hA fun us s2 ⟨vs,H2,I2,r2,q2⟩=>hm pins s2 σ H2 (.ref a) vs (.ref a) us Q I2 (show zaI (.ref a) (.ref a) from rfl) r2 q2
end
end L2
namespace S2
open PySem PySem.Spec PyProof.Rows L2
section
variable{X:Cx}{cl:Cf}{E:St->XK}{e:Expr}{f:Fe}{pos':Pos}
noncomputable def MtT(X:Cx)(cl:Cf)(id:String)(g:List D->D->Option D):Prop:=MtM X id fun x vs H Q=>∃(a:Addr) (xs:List V) (l:List D) (w:Wd) (d:D) (v:V) (r:Int),w.H=H/\x=.ref a/\vs=[v]/\w.H a=some (.tup xs)/\Shds cl w xs l/\TopV cl w v d/\g l d=some (.int r)/\Q (.int r) H
theorem zjg(hK:X.K=cl.K)(hu:X.A.units+64<cLine):MtT X cl "tuple.index" zbi:=by
 intro pins s σ H x vs v us Q I rx rv h;obtain ⟨a,xs,l,w,d,v',r,rfl,rfl,rfl,hH,sh,tv,hg,q⟩:=h;unfold zbi at hg;split at hg
 ·rename_i hf;cases hg;simp only [yab,yaB] at hf;obtain ⟨⟨⟨f1,f2⟩,f3⟩,f4⟩:=hf;cases rx;obtain ⟨u,rfl,ru⟩:=rv.one;obtain ⟨bs,rb⟩:=zep I hK tv f1 ru;obtain ⟨its,n,sl,r,e⟩:=I.tupM hH;obtain ⟨as,ra⟩:=zbM I hK sh f2 r;have hlen:=zcK ra
  have hlt:l.findIdx (zer · d)<l.length:=by
   rw [List.findIdx_lt_length];unfold zml at f4;rwa [List.any_eq_true] at f4
  refine ybW F.slot_tuple_index ⟨_,e,rfl⟩ F.entry_tuple_index (F.args_tuple_index_2 _ _) (zeh a _ n none sl u (fun y=>(SeqAt.readOf s.heap y).eqv d.py) (l.findIdx (zer · d)) (by rw [yaf];omega) ?_ ?_) ⟨e,fun y hy=>za4 hu rb f1 ra f2 y hy,?_⟩
  ·obtain ⟨e',h1,h2⟩:=zbr (d:=d) ra f2 (l.findIdx (zer · d)) (by omega);simp only [yce];rw [h2];rw [yac hlt] at h1;cases h1;exact List.findIdx_getElem (w:=hlt)
  ·intro m hm hmj
   have lm:m<its.length:=by rwa [yaf] at hm
   obtain ⟨e',h1,h2⟩:=zbr (d:=d) ra f2 m lm;simp only [yce];rw [h2];rw [yac (by omega)] at h1;cases h1;exact List.not_of_lt_findIdx hmj
  ·exact ⟨.int _,w.H,I.tok _,⟨_,rfl⟩,q⟩
 ·cases hg
def zok(i:Nat)(f:Fe):Fe:=fun ρ S=>match ρ[i]? with | some (some (false,.tup l))=>(f ρ S).bind fun d S1=>Out.of (zbi l d) S1 | _=>.bad
def zof:∀(l:List D) (d r:D),zbi l d=some r->∃n,r=.int n:=by
 intro l d r h;unfold zbi at h;split at h
 ·cases h;exact ⟨_,rfl⟩
 ·cases h
def Rel.tupAny{B:Base}{σ:St}{w:Wd}{ρ:Env}{S:Sto}{i:Nat}{l:List D}(R:Rel cl B σ w ρ S)(h:ρ[i]?=some (some (false,.tup l))):∃a xs,σ[i]?=some (some (.ref a))/\w.H a=some (.tup xs)/\Shds cl w xs l:=by
 obtain ⟨v,e1,sh⟩:=R.slots i false _ h
 cases sh with
 | tup ep k r=>exact ⟨_,_,e1,ep,r⟩
def znj(hK:X.K=cl.K)(hu:X.A.units+64<cLine)
  (hN:X.N[i]?=some x) (hv:Vis X.env.scope x) (hd:(x == ("__debug__":Str))=false) (hcd:(x == ("__classdict__":Str))=false) (he:PE X e (tH cl E f)) (hpl:zaB e=true) (hln:(ap.endLine == cp.line)=true) :
  PE X (.Call (.Attribute (.Name x pos') "index" ap) [e] [] cp) (tE cl E (zok i f)):=by
 refine PE.imp (zpZ (es:=[]) PySem.F.slot_tuple_index PySem.F.type_tuple_index (zjg hK hu) (zaU hN hv hd hcd) (zf4 he ziy (zap hpl)) (hfew:=zc3 (by simp [hpl]) (by simp)) (hline:=hln) (hs:=zap hpl) (hplain:=rfl)) ?_;rintro σ H Q ⟨B,w,ρ,S,rfl,R,q⟩
 have key:(∃l,ρ[i]?=some (some (false,.tup l)))\/zok i f ρ S=.bad:=by
  unfold zok;split
  ·rename_i l hl;exact .inl ⟨l,hl⟩
  ·exact .inr rfl
 rcases key with ⟨l,hl⟩ | hb
 ·have e':zok i f ρ S=(f ρ S).bind fun d S1=>Out.of (zbi l d) S1:=by unfold zok;rw [hl]
  rw [e'] at q;obtain ⟨a,xs,e1,h2,t⟩:=R.tupAny hl;refine ⟨_,e1,⟨_,_,rfl,h2⟩,B,w,ρ,S,rfl,R,?_⟩
  cases hf:f ρ S with
  | bad=>rw [hf] at q;exact q.elim
  | exc c S1 =>
   rw [hf] at q;simp only [zag,hf,Out.bind];exact q
  | ok d S1 =>
   rw [hf] at q;simp only [zag,hf,Out.bind];intro vs w' R' F' sh;dsimp only [Out.bind] at q
   cases hg:zbi l d with
   | none=>rw [hg] at q;exact q.elim
   | some r =>
    rw [hg] at q;obtain ⟨n,rfl⟩:=zof l d r hg;obtain ⟨a',xs',e1',h2',t'⟩:=R'.tupAny hl;rw [e1] at e1';cases e1'
    cases sh with
    | cons h1 hn =>
     cases hn;exact ⟨a,xs',l,w',d,_,n,rfl,rfl,rfl,h2',t',h1.top R',hg,q _ w' R' F' (.int _)⟩
 ·rw [hb] at q;exact q.elim
end
end S2
namespace ST
open PySem PySem.Spec PyProof.Rows
noncomputable def zhU:List Int:=[0,1,2,3,4,5,6,7]
def zaf(ks:List Int):List Int:=zhU.filter fun x=>decide (x∈ks)
theorem zje:k∈zhU↔0<=k/\k<8:=by
 unfold zhU;simp only [yan,yaJ,ybM];omega
def zaO:k∈zaf ks↔(0<=k/\k<8)/\k∈ks:=by
 unfold zaf;rw [ycW,zje,decide_eq_true_iff]
def zaW:(zaf ks).Pairwise (· < ·):=List.Pairwise.filter _ (by unfold zhU;decide)
def zaF:(zaf ks).length<=8:=by
 have:=List.length_filter_le (fun x=>decide (x∈ks)) zhU;exact this
theorem ze0{l:List Int}(h:l.Pairwise (· < ·)):l.Nodup:=List.Pairwise.imp (fun {a b} h=>by omega) h
theorem zit{a b:List Int}(ha:a.Pairwise (· < ·))(hb:b.Pairwise (· < ·))(h:∀x,x∈a↔x∈b):a=b:=by
 have p:a.Perm b:=(List.perm_ext_iff_of_nodup (ze0 ha) (ze0 hb)).mpr h;exact PySem.W.lks_uniq p (List.Pairwise.imp (fun {a b} h=>by omega) ha) (List.Pairwise.imp (fun {a b} h=>by omega) hb)
def zlE(h:k∈ks):zaf (ks++[k])=zaf ks:=by
 refine zit zaW zaW fun x=>?_
 rw [zaO,zaO,ybO,yaX];constructor
 ·rintro ⟨a,b | rfl⟩
  ·exact ⟨a,b⟩
  ·exact ⟨a,h⟩
 ·rintro ⟨a,b⟩;exact ⟨a,.inl b⟩
theorem zgD{a b:Int}(ha:0<=a)(hb:0<=b):a.toNat<b.toNat↔a<b:=by omega
def zbO{l:List Int}(h:l.Pairwise (· < ·))(h0:∀x∈l,0<=x):(l.map Int.toNat).Pairwise (· < ·):=by
 rw [List.pairwise_map];exact List.Pairwise.imp_of_mem (fun {a b} ha hb hab=>(zgD (h0 a ha) (h0 b hb)).mpr hab) h
def zbT:∀x∈zaf ks,0<=x:=fun x hx=>(zaO.mp hx).1.1
theorem zfF(hk:0<=k/\k<8)(hn:k ∉ ks)(hc:Cut ((zaf ks).map Int.toNat) k.toNat c):zaf (ks++[k])=(zaf ks).take c++k::(zaf ks).drop c:=by
 have hnc:k ∉ zaf ks:=fun z=>hn (zaO.mp z).2
 have hs:((zaf ks).take c++k::(zaf ks).drop c).Pairwise (· < ·):=by
  have h1:=zm8 (zbO zaW zbT) hc (j:=k.toNat) (fun z=>by
   obtain ⟨x,hx,e⟩:=ybd.mp z;have:=zbT x hx
   exact hnc (by rw [show k=x by omega];exact hx))
  rw [<-List.map_take,<-List.map_drop,<-yaR,<-ycw,List.pairwise_map] at h1;refine List.Pairwise.imp_of_mem (fun {a b} ha hb hab=>?_) h1
  have pos:∀x∈(zaf ks).take c++k::(zaf ks).drop c,0<=x:=fun x hx=>by
   rcases ybO.mp hx with h | h
   ·exact zbT x (List.mem_of_mem_take h)
   ·rcases yan.mp h with rfl | h
    ·exact hk.1
    ·exact zbT x (List.mem_of_mem_drop h)
  exact (zgD (pos a ha) (pos b hb)).mp hab
 refine zit zaW hs fun x=>?_
 rw [znW,zaO,zaO,ybO,yaX];constructor
 ·rintro ⟨a,b | rfl⟩
  ·exact .inr ⟨a,b⟩
  ·exact .inl rfl
 ·rintro (rfl | ⟨a,b⟩)
  ·exact ⟨hk,.inr rfl⟩
  ·exact ⟨a,.inl b⟩
theorem zd3(prog:Program)(w:World)(h:0<=k/\k<8):(intKind prog w).hash k=k:=by
 have:k=0\/k=1\/k=2\/k=3\/k=4\/k=5\/k=6\/k=7:=by omega
 rcases this with rfl | rfl | rfl | rfl | rfl | rfl | rfl | rfl<;>rfl
theorem zh4(h:0<=k/\k<8):SetTable.bits k=k.toNat:=by
 unfold SetTable.bits;rw [Int.emod_eq_of_lt h.1 (by omega)]
structure Els(l:List Int)(es:List (Int×Value)):Prop where
 len:es.length=l.length
 at':∀(i:Nat) (k:Int),l[i]?=some k->∃tk,es[i]?=some (k,Value.int k tk)
def Els.mem(h:Els l es)(he:e∈es):∃k tk,k∈l/\e=(k,Value.int k tk):=by
 obtain ⟨i,hi,rfl⟩:=ycQ.mp he
 have hl:i<l.length:=by rw [<-h.len];exact hi
 obtain ⟨tk,e⟩:=h.at' i _ (yac hl);rw [yac hi] at e;exact ⟨_,tk,ybk hl,Option.some.inj e⟩
def Els.has(h:Els l es)(hk:k∈l):∃tk,(k,Value.int k tk)∈es:=by
 obtain ⟨i,hi,rfl⟩:=ycQ.mp hk;obtain ⟨tk,e⟩:=h.at' i _ (yac hi);exact ⟨tk,ya8 e⟩
theorem Els.ins{l:List Int}{es:List (Int×Value)}(h:Els l es)(c:Nat)(hc:c<=l.length)(k:Int)(tk:Tok):Els (l.take c++k::l.drop c) (es.take c++(k,Value.int k tk)::es.drop c) where
 len:=by simp only [yau,yam,yaH,ycj,h.len]
 at':=fun i x e=>by
  have hl:=h.len
  rcases Nat.lt_trichotomy i c with a | a | a
  ·rw [yaF (by rw [yaH];omega),ycr,if_pos a] at e;obtain ⟨t,z⟩:=h.at' i x e;exact ⟨t,by rw [yaF (by rw [yaH];omega),ycr,if_pos a];exact z⟩
  ·subst a;rw [yav (by rw [yaH];omega),yaH,yc3 hc,yda] at e;cases e;exact ⟨tk,by rw [yav (by rw [yaH];omega),yaH,yc3 (by omega),yda];rfl⟩
  ·rw [yav (by rw [yaH];omega),yaH,yc3 hc,show i-c=(i-c-1)+1 by omega,ycv,ybt] at e;obtain ⟨t,z⟩:=h.at' _ x e;exact ⟨t,by rw [yav (by rw [yaH];omega),yaH,yc3 (by omega),show i-c=(i-c-1)+1 by omega,ycv,ybt];exact z⟩
def Els.hashes(h:Els l es):es.map (·.1)=l:=by
 apply ybS;intro i;rw [yaq]
 cases e:l[i]? with
 | none =>
  have:es[i]?=none:=by rw [List.getElem?_eq_none_iff] at e ⊢;rw [h.len];exact e
  rw [this];rfl
 | some k =>
  obtain ⟨tk,z⟩:=h.at' i k e;rw [z];rfl
noncomputable def byT(w:World):Bool:=w.params.followText "set-order"
structure ISet(w:World)(h:Heap)(a:Addr)(ks:List Int):Prop where
 ex:∃o es ep t,h.get? a=some o/\o.ExactSet/\o.data=.set es ep t/\t.place.toList=(zaf ks).map Int.toNat/\t.dummies=#[]/\t.plain=true/\t.led=!byT w/\(t.mask=31\/(t.mask=7/\(zaf ks).length<=4))/\Els (zaf ks) es.toList
section
variable{prog:Program}{w:World}{A:Around}{E:Z5}{s:Shared}
def zbR{es:Array (Int×Value)}{t:SetTable}{l:List Int}(hl:l.length<=8)(h1:t.place.toList=l.map Int.toNat)(h2:t.dummies=#[])(h3:t.mask=31\/(t.mask=7/\l.length<=7))(h4:Els l es.toList):t.fits es.size=true:=by
 have e1:t.place.size=l.length:=by rw [<-yaz,h1,yao]
 have e2:es.size=l.length:=by rw [<-yaz,h4.len]
 unfold SetTable.fits SetTable.fill;rw [e1,e2,h2];have:(#[]:Array Nat).size=0:=rfl;rw [this];simp only [ybw,Bool.true_and,yaB]
 rcases h3 with z | ⟨z,y⟩<;>rw [z]<;>omega
def zlt{es:Array (Int×Value)}(hs:∀x∈l,0<=x/\x<8)(h:Els l es.toList):ElemsOf (intKind prog w) es.toList:=fun e he=>by
 obtain ⟨k,tk,hk,rfl⟩:=h.mem he;exact ⟨⟨k,intKind_is _ _ _ _,(zd3 prog w (hs k hk)).symm⟩,rfl⟩
theorem zjE{t:SetTable}{l:List Int}{k:Int}(hl:l.Pairwise (· < ·))(h0:∀x∈l,0<=x)(hk:0<=k/\k<8)(hn:k ∉ l)(h1:t.place.toList=l.map Int.toNat)(h2:t.dummies=#[])(h3:7<=t.mask):t.freeSlot k=some (k.toNat,false):=by
 have hj:SetTable.bits k % (t.mask+1)=k.toNat:=by
  rw [zh4 hk];exact Nat.mod_eq_of_lt (by omega)
 have hnp:k.toNat ∉ t.place.toList:=by
  rw [h1];intro z;obtain ⟨x,hx,e⟩:=ybd.mp z;have:=h0 x hx;exact hn (by rw [show k=x by omega];exact hx)
 have es:=ziv (t:=t) (by rw [h1];exact zbO hl h0) h2 hnp;unfold SetTable.freeSlot SetTable.probe
 have e0:10*SetTable.turns t.mask=(10*SetTable.turns t.mask-1)+1:=by unfold SetTable.turns;omega
 rw [e0];unfold SetTable.probe.go;have ep:(t.probeStart k).j=k.toNat:=hj;have ed:(t.probeStart k).dummy=none:=rfl;rw [ep,es,ed];rfl
theorem znX(hk:0<=k/\k<8)(hn:k ∉ ks)(h1:t.place.toList=(zaf ks).map Int.toNat)(h2:t.dummies=#[])(h3:t.mask=31\/(t.mask=7/\(zaf ks).length<=4))(h4:Els (zaf ks) es.toList) :
  ∃es1 t1,layNew t es k (.int k tk)=(es1,t1,false,false)/\t1.place.toList=(zaf (ks++[k])).map Int.toNat/\t1.dummies=#[]/\t1.plain=t.plain/\t1.led=t.led/\t1.mask=t.mask/\t1.finger=t.finger/\Els (zaf (ks++[k])) es1.toList:=by
 have hnc:k ∉ zaf ks:=fun z=>hn (zaO.mp z).2
 have hm:7<=t.mask:=by rcases h3 with z | ⟨z,_⟩<;>rw [z]<;>decide
 have fs:=zjE zaW zbT hk hnc h1 h2 hm;obtain ⟨c,hc⟩:=zhg t.place.toList k.toNat (by rw [h1];exact zbO zaW zbT);have eb:SetTable.below t.place k.toNat=c:=zdJ hc;rw [h1] at hc
 have hcl:c<=(zaf ks).length:=by have:=hc.1;rwa [yao] at this
 have en:=zfF hk hn hc;refine ⟨SetTable.insertAt es c (k,.int k tk),{ t with place:=SetTable.insertAt t.place c k.toNat },?_,?_,h2,rfl,rfl,rfl,rfl,?_⟩
 ·have fit:({ t with place:=SetTable.insertAt t.place c k.toNat }:SetTable).fits (SetTable.insertAt es c (k,.int k tk)).size=true:=by
   refine zbR (l:=zaf (ks++[k])) zaF ?_ h2 ?_ ?_
   ·show (SetTable.insertAt t.place c k.toNat).toList=_;rw [zb1,h1,en,<-List.map_take,<-List.map_drop,ycw,yaR]
   ·have hl:(zaf (ks++[k])).length=(zaf ks).length+1:=by
     rw [en];simp only [yau,yam,yaH,ycj];omega
    rcases h3 with z | ⟨z,y⟩
    ·exact .inl z
    ·exact .inr ⟨z,by omega⟩
   ·rw [zb1,en];exact h4.ins c hcl k tk
  unfold layNew;rw [fs];dsimp only;rw [zpJ h2];dsimp only;rw [eb];unfold SetTable.orStandIn;rw [fit];rfl
 ·show (SetTable.insertAt t.place c k.toNat).toList=_;rw [zb1,h1,en,<-List.map_take,<-List.map_drop,ycw,yaR]
 ·rw [zb1,en];exact h4.ins c hcl k tk
noncomputable def zji(hs:Array Int):Option (List (Nat×Nat)):=(SetTable.layClean 31 hs).map fun owner=>(List.range 32).filterMap fun j=>(owner.getD j none).map (j,·)
noncomputable def zrE(b0 b1 b2 b3 b4 b5 b6 b7:Bool):List Int:=(if b0 then [0] else [])++((if b1 then [1] else [])++((if b2 then [2] else [])++((if b3 then [3] else [])++((if b4 then [4] else [])++((if b5 then [5] else [])++((if b6 then [6] else [])++(if b7 then [7] else [])))))))
theorem zlc:∀b0 b1 b2 b3 b4 b5 b6 b7:Bool,(zrE b0 b1 b2 b3 b4 b5 b6 b7).length=5->zji (zrE b0 b1 b2 b3 b4 b5 b6 b7).toArray=some (((zrE b0 b1 b2 b3 b4 b5 b6 b7).map Int.toNat).zip [0,1,2,3,4]):=by decide +kernel
def zjW(ks:List Int):zaf ks=zrE (decide ((0:Int)∈ks)) (decide ((1:Int)∈ks)) (decide ((2:Int)∈ks)) (decide ((3:Int)∈ks)) (decide ((4:Int)∈ks)) (decide ((5:Int)∈ks)) (decide ((6:Int)∈ks)) (decide ((7:Int)∈ks)):=by
 have fc:∀(p:Int->Bool) (x:Int) (l:List Int),List.filter p (x::l)=(if p x then [x] else [])++List.filter p l:=fun p x l=>by
  rw [List.filter_cons];cases p x<;>rfl
 unfold zaf zhU;rw [fc,fc,fc,fc,fc,fc,fc,fc,List.filter_nil,yaV];rfl
def zsX(hl:(zaf ks).length=5)(f mv:Nat)(led pl:Bool):SetTable.laid 31 f mv led pl (zaf ks).toArray=some ({ mask:=31,place:=((zaf ks).map Int.toNat).toArray,dummies:=#[],finger:=f,led:=led,moves:=mv,plain:=pl },#[0,1,2,3,4]):=by
 have e:zji (zaf ks).toArray=some (((zaf ks).map Int.toNat).zip [0,1,2,3,4]):=by
  rw [zjW] at hl ⊢;exact zlc _ _ _ _ _ _ _ _ hl
 unfold zji at e;unfold SetTable.laid
 cases q:SetTable.layClean 31 (zaf ks).toArray with
 | none=>rw [q] at e;cases e
 | some owner =>
  rw [q] at e;have e':(List.range 32).filterMap (fun j=>(owner.getD j none).map (j,·))=((zaf ks).map Int.toNat).zip [0,1,2,3,4]:=Option.some.inj e;show some _=some _;rw [e'];have z1:(((zaf ks).map Int.toNat).zip [0,1,2,3,4]).map (·.1)=(zaf ks).map Int.toNat:=List.map_fst_zip (by rw [yao,hl];exact yah _);have z2:(((zaf ks).map Int.toNat).zip [0,1,2,3,4]).map (·.2)=[0,1,2,3,4]:=List.map_snd_zip (by rw [yao,hl];exact yah _);rw [z1,z2]
def zxg{α:Type}{es:Array α}(h:es.size=5):(#[0,1,2,3,4]:Array Nat).filterMap (es[·]?)=es:=by
 obtain ⟨l⟩:=es
 match l,h with
 | [a,b,c,d,e],_=>rfl
def zpE(hl:(zaf ks).length=5)(h4:Els (zaf ks) es.toList):∃t2,relayAll t es (SetTable.grown es.size)=(es,t2,false)/\t2.place.toList=(zaf ks).map Int.toNat/\t2.dummies=#[]/\t2.plain=t.plain/\t2.led=t.led/\t2.mask=31:=by
 have hz:es.size=5:=by rw [<-yaz,h4.len,hl]
 have hh:es.map (·.1)=(zaf ks).toArray:=by
  apply Array.ext';rw [Array.toList_map,h4.hashes]
 have hm:SetTable.sizeAbove (SetTable.grown 5)-1=31:=by decide
 have er:t.relaid (es.map (·.1)) (SetTable.grown es.size)=some ({ mask:=31,place:=((zaf ks).map Int.toNat).toArray,dummies:=#[],finger:=t.finger,led:=t.led,moves:=t.movedTo 31,plain:=t.plain },#[0,1,2,3,4]):=by
  unfold SetTable.relaid;rw [hz,hm,hh];exact zsX hl _ _ _ _
 refine ⟨{ mask:=31,place:=((zaf ks).map Int.toNat).toArray,dummies:=#[],finger:=t.finger,led:=t.led,moves:=t.movedTo 31,plain:=t.plain },?_,rfl,rfl,rfl,rfl,rfl⟩;unfold relayAll;rw [er];dsimp only;rw [zxg hz];have fit:=zbR (es:=es) (t:={ mask:=31,place:=((zaf ks).map Int.toNat).toArray,dummies:=#[],finger:=t.finger,led:=t.led,moves:=t.movedTo 31,plain:=t.plain }) (l:=zaf ks) zaF rfl rfl (.inl rfl) h4;rw [fit,hz]
 have cv:coversAll #[0,1,2,3,4] 5=true:=by decide
 rw [cv];rfl
theorem zlj{a:Addr}{ks:List Int}{k:Int}{tk:Tok}{Q:Bool->Shared->Prop}(S:ISet w s.heap a ks)(hk:0<=k/\k<8)
  (h:∀h' c,Heap.SameBut a s.heap h'->ISet w h' a (ks++[k])->Q c { s with heap:=h',toks:=s.toks+1 }):wpAny (model prog w) A (setAdd a (.int k tk)) Q E s:=by
 unfold setAdd;refine ybp (yaa ((intKind prog w).pyHash (k:=k) (intKind_is _ _ _ _) ?_));obtain ⟨o,es,ep,t,ho,hex,hd,h1,h2,h5,h6,h3,h4⟩:=S.ex;have hsm:∀x∈zaf ks,0<=x/\x<8:=fun x hx=>(zaO.mp hx).1
 have hf:t.fits es.size=true:=zbR zaF h1 h2 (h3.imp id fun z=>⟨z.1,by omega⟩) h4;have hel:ElemsOf (intKind prog w) es.toList:=zlt hsm h4
 have hz:es.size<=8:=by rw [<-yaz,h4.len];exact zaF
 have hb:es.size<scanBound:=by unfold scanBound;omega
 unfold setAddHashed setAddHashedIn;refine ybp (yaa (wpAny_setState_of (s:={ s with toks:=s.toks+1 }) ho hd hf ?_));dsimp only;rw [byScan_of (knd:=intKind prog w) rfl hb hel];simp only [↓reduceIte];unfold setAddByScan;refine yaa ?_;refine yaa (yb6 ?_);refine yaa (wpAny_setScan_of (knd:=intKind prog w) (k:=k) (s:={ s with toks:=s.toks+1 }) (intKind_is _ _ _ _) ho hd hf hel ?_)
 cases hr:List.findIdx? (fun e=>(intKind prog w).is k e.2) es.toList with
 | some j =>
  dsimp only;obtain ⟨hj,hpj,_⟩:=List.findIdx?_eq_some_iff_getElem.mp hr;obtain ⟨k',tk',hk',e'⟩:=h4.mem (ybk hj);rw [e'] at hpj;obtain ⟨u,eu⟩:=ydd (k:=k) (v:=Value.int k' tk') hpj
  have:k'=k:=by injection eu
  subst this;have hin:k'∈ks:=(zaO.mp hk').2;refine yae (yae (h s.heap _ (Heap.SameBut.refl a s.heap) ?_));refine ⟨o,es,ep,t,ho,hex,hd,?_⟩;rw [zlE hin];exact ⟨h1,h2,h5,h6,h3,h4⟩
 | none =>
  dsimp only
  have hni:k ∉ ks:=fun z=>by
   obtain ⟨tk',he⟩:=h4.has (zaO.mpr ⟨hk,z⟩);have:=List.findIdx?_eq_none_iff.mp hr _ he;rw [intKind_is] at this;cases this
  obtain ⟨es1,t1,eL,g1,g2,g3,g4,g5,g6,g7⟩:=znX (tk:=tk) hk hni h1 h2 h3 h4;rw [zd3 prog w hk,eL];dsimp only;refine yaa (yba (a:=()) rfl ?_)
  have hsz1:es1.size=(zaf (ks++[k])).length:=by rw [<-yaz,g7.len]
  have hsl:es1.size<=sizeLine:=by rw [hsz1];exact yas zaF (by decide)
  rw [g3,h5];simp only [ybY];refine yaa ?_;rw [hashByValue_scannable 8 (x:=.int k tk) rfl];refine yae ?_;have hpk:plainKind (.int k tk)=true:=rfl;rw [hpk];simp only [ybY];refine yaa (wpAny_storeSet_of (s:={ s with toks:=s.toks+1 }) ho hd ?_ hsl);obtain ⟨o1,w1,x1,d1⟩:=zuH (es':=es1) (t':=t1) ho hex hd;have sb1:Heap.SameBut a s.heap (s.heap.update a (Obj.putSet es1 t1)):=Heap.SameBut.update ..
  have hlen:(zaf (ks++[k])).length=(zaf ks).length+1:=by
   obtain ⟨c,hc⟩:=zhg ((zaf ks).map Int.toNat) k.toNat (zbO zaW zbT);rw [zfF hk hni hc]
   have:c<=(zaf ks).length:=by have:=hc.1;rwa [yao] at this
   simp only [yau,yam,yaH,ycj];omega
  have hfill:t1.fill=(zaf (ks++[k])).length:=by
   unfold SetTable.fill;rw [g2];show t1.place.size+0=_;rw [<-yaz,g1,yao];rfl
  by_cases hfull:(!false&&t1.tooFull)=true
  ·rw [if_pos hfull]
   have h5':(zaf (ks++[k])).length=5:=by
    have hf:(zaf (ks++[k])).length*5 ≥ t.mask*3:=by
     have:t1.tooFull=true:=by simpa using hfull
     unfold SetTable.tooFull at this;rw [hfill,g5] at this;simpa using this
    have:=zaF (ks:=ks++[k])
    rcases h3 with z | ⟨z,y⟩
    ·rw [z] at hf;omega
    ·rw [z] at hf;omega
   obtain ⟨t2,er,r1,r2,r3,r4,r5⟩:=zpE (t:=t1) h5' g7;rw [er];dsimp only;refine yaa (yba (a:=()) rfl ?_);refine yaa (wpAny_storeSet_of (s:={ s with heap:=s.heap.update a (Obj.putSet es1 t1),toks:=s.toks+1 }) w1 d1 ?_ hsl);obtain ⟨o2,w2,x2,d2⟩:=zuH (es':=es1) (t':=t2) w1 x1 d1;have sb2:Heap.SameBut a s.heap ((s.heap.update a (Obj.putSet es1 t1)).update a (Obj.putSet es1 t2)):=sb1.trans (Heap.SameBut.update ..);refine yae ?_;dsimp only;refine yae (h _ true sb2 ⟨o2,es1,_,t2,w2,x2,d2,r1,r2,by rw [r3,g3,h5],by rw [r4,g4,h6],.inl r5,g7⟩)
  ·rw [if_neg hfull];refine yae ?_;dsimp only;refine yae (h _ true sb1 ⟨o1,es1,_,t1,w1,x1,d1,g1,g2,by rw [g3,h5],by rw [g4,h6],?_,g7⟩);rw [g5]
   rcases h3 with z | ⟨z,y⟩
   ·exact .inl z
   ·refine .inr ⟨z,?_⟩
    have:t1.tooFull=false:=by cases q:t1.tooFull with
     | false=>rfl
     | true=>rw [q] at hfull;exact absurd rfl hfull
    unfold SetTable.tooFull at this;rw [hfill,g5,z] at this;have:=of_decide_eq_false this;omega
end
def ISet.keep(x:ISet w h a ks)(e:∀o,h.get? a=some o->h'.get? a=some o):ISet w h' a ks:=by
 obtain ⟨o,es,ep,t,ho,r⟩:=x.ex;exact ⟨o,es,ep,t,e o ho,r⟩
theorem ISet.fresh{w:World}{h:Heap}{a:Addr}(e:h.get? a=some { cls:=.type "set",dict:=none,data:=.set #[] 0 (.fresh 0 0 (!byT w)) }):ISet w h a [] :=
 ⟨_,#[],0,.fresh 0 0 (!byT w),e,⟨rfl,rfl,rfl⟩,rfl,rfl,rfl,rfl,rfl,.inr ⟨rfl,by decide⟩,⟨rfl,fun i k z=>by cases z⟩⟩
section
variable{prog:Program}{w:World}{A:Around}{R:Result->Shared->Prop}{I:Addr}{fp wr:List Addr}{G:Array GenState->Array GenState->Prop}{n:Nat}{P:Nat->Value->Prop}{St:Nat->Shared->Prop}
theorem zfn(W:WalksS prog w A.in1 I fp wr G n P St)(S:Addr)(hSf:S ∉ fp)(val:Nat->Int)(hval:∀i v,P i v->∃t,v=.int (val i) t)(hs:∀i,i<n->0<=val i/\val i<8) :
  ∀(k i:Nat) (s:Shared),n-i=k->i<=n->St i s->ISet w s.heap S ((List.range i).map val) →
   (∀s',Moved (S::wr) G s s'->ISet w s'.heap S ((List.range n).map val)->R (.ok (.ret .none)) s') →
   codeAny (model prog w) A (.builtin "set.update.loop" ⟨[.ref S,.ref I],[]⟩) R s:=by
 have hSw:S ∉ wr:=fun h=>hSf (W.sub _ h)
 have hsub:∀b∈wr,b∈S::wr:=fun b hb=>yar _ hb
 intro k
 induction k with
 | zero =>
  intro i s hk hi hst hS hR
  have hin:i=n:=by omega
  subst hin;refine ybr yci ?_;rw [yby ybD _];show wpAny _ A.in1 (pyNext (.ref I) >>= _) _ _ s;refine yaa (W.done s _ _ hst fun s' hm=>?_);show wpAny _ A.in1 (ret Value.none) _ _ s';exact yae (hR s' (hm.mono hsub) (hS.keep fun o ho=>hm.heap S _ hSw ho))
 | succ k ih =>
  intro i s hk hi hst hS hR
  have hlt:i<n:=by omega
  refine ybr yci ?_;rw [yby ybD _];show wpAny _ A.in1 (pyNext (.ref I) >>= _) _ _ s;refine yaa (W.item i s _ _ hlt hst fun v s' hP hst' hm=>?_);obtain ⟨t,rfl⟩:=hval i v hP;have hS':ISet w s'.heap S ((List.range i).map val):=hS.keep fun o ho=>hm.heap S _ hSw ho
  show wpAny _ A.in1 (holding [Value.int (val i) t] (setAdd S (.int (val i) t)) >>= _) _ _ s';refine yaa (ybp ?_);refine zlj hS' (hs i hlt) fun h' c hsb hS2=>?_
  have hSi:ISet w h' S ((List.range (i+1)).map val):=by
   rw [List.range_succ,ycw];exact hS2
  refine yae ⟨ycT ybD _,ih (i+1) _ (by omega) hlt (W.frame _ s' _ _ hst' (yb3 _) fun b hb o e=>?_) hSi fun s'' hm'' hS''=>?_⟩
  ·rw [hsb.2 b (fun h:b=S=>hSf (by rw [<-h];exact hb))];exact e
  ·refine hR s'' (Moved.trans W.gtrans ((hm.mono hsub).then_heap (yb3 _) fun b o hb e=>?_) hm'') hS'';rw [hsb.2 b (fun h:b=S=>hb (by rw [h];exact yaE))];exact e
end
end ST
namespace PySem
section
variable{prog:Program}{w:World}{A:Around}{E:Z5}{s:Shared}
def zcC(a:Value){Q₁:Z5}
  (h:Q₁ (.ref s.heap.objs.size) { s with heap:=s.heap.push { cls:=.type "set",dict:=none,data:=.set #[] 0 (.fresh 0 0 (!ST.byT w)) } }) :
  codeAny (model prog w) A (.call (.builtin "set.__new__") ⟨[.type "set",a],[]⟩) (wants Q₁ E) s:=by
 refine yc2 ?_;show wpAny _ A.in1 (do checkBuiltinCall "set.__new__" ⟨[.type "set",a],[]⟩;again (.builtin "set.__new__" ⟨[.type "set",a],[]⟩)) _ _ s;refine yaa (yba (F.newCall_set_1 a) (yae ⟨ycT F.plain_set_new _,ybr F.entry_set_new ?_⟩));rw [yby F.plain_set_new _];unfold Builtin.«set.__new__» Builtin.Frozenset.newClass;have hsub:=sub_set_self;obtain ⟨hp,g,d,tk,os⟩:=s;dsimp only
 wp_walk
 refine wpAny_askSetting (yae ?_);dsimp only;simp only [newObj];refine yaa (wpAny_alloc (yae ?_));exact yae h
theorem zj0{l:Addr}{items:Array Value}{ns:List Int}{Q:Z5}
  (hh:A.handled=none) (hl:s.heap.IsList l items) (hi:PyProof.Rows.IntsAre items.toList ns) (hs:∀k∈ns,0<=k/\k<8)
  (h:∀(h':Heap) (tk:Nat),ST.ISet w h' s.heap.objs.size ns->(∀b o,s.heap.get? b=some o->h'.get? b=some o)->Q (.ref s.heap.objs.size) { s with heap:=h',toks:=tk }) :
  wpAny (model prog w) A (call (.type "set") [.ref l]) Q E s:=by
 have hnl:items.size=ns.length:=by rw [<-yaz];exact PyProof.Rows.IntsAre.length hi
 have ern:(List.range items.size).map (fun i=>ns.getD i 0)=ns:=by
  apply ybS;intro i;rw [yaq,hnl]
  by_cases hi:i<ns.length
  ·rw [List.getElem?_range hi,yac hi];show some (ns.getD i 0)=_;rw [yaP,yac hi];rfl
  ·rw [ybf (by rw [yb9];omega),ybf (by omega)];rfl
 obtain ⟨c,tl,hmro⟩:=ya7.mro;have hmade:=ya7.made;have hsub:=ya7.sub;refine ycV (yc2 ?_);show wpAny _ _ (callAny (.type "set") _) _ _ _;refine yae ⟨yc9 _ (by decide +kernel),ybr F.entry_type_call ?_⟩;rw [Around.under_plain (weight_type_call_type "set" [.ref l] []) rfl];have h1:=ya7.notType;have h2:=ya7.canCreate;have hct:=F.typeCall_set_1 (.ref l)
 repeat (any_goals (first | assumption | wp_step))
 refine ybB (zcC (.ref l) (E:=E) (Q₁:=fun obj s₁=>obj=.ref s.heap.objs.size/\s₁={ s with heap:=s.heap.push { cls:=.type "set",dict:=none,data:=.set #[] 0 (.fresh 0 0 (!ST.byT w)) } }) ⟨rfl,rfl⟩) fun r s₁ hr=>?_
 cases r with
 | error e=>exact hr
 | ok fl =>
  cases fl with
  | ret obj =>
   obtain ⟨rfl,rfl⟩:=hr;generalize hG:s.heap.push { cls:=.type "set",dict:=none,data:=.set #[] 0 (.fresh 0 0 (!ST.byT w)) }=G;have hS:G.get? s.heap.objs.size=some { cls:=.type "set",dict:=none,data:=.set #[] 0 (.fresh 0 0 (!ST.byT w)) }:=hG ▸ yag _ rfl;have upG:∀b o,s.heap.get? b=some o->G.get? b=some o:=fun b o e=>hG ▸ yad _ e
   have hGz:G.objs.size=s.heap.objs.size+1:=by rw [<-hG,yaS]
   have hT:Shared.TypeIs { s with heap:=G } (.ref s.heap.objs.size) "set":=⟨_,hS,rfl⟩;have hli:=ya7.init.lookup;have hbi:=ya7.init.bind (.ref s.heap.objs.size)
   repeat (any_goals (first | assumption | wp_step))
   refine ybB (ycd (R:=wants (fun r s₂=>r=.none/\∃h' tk,s₂={ s with heap:=h',toks:=tk }/\ST.ISet w h' s.heap.objs.size ns ∧
     (∀b o,s.heap.get? b=some o->h'.get? b=some o)) E) ya7.init.plain F.entry_set_init (check_set_init_1 hT ?_)) fun r₂ s₂ hr₂=>?_
   ·obtain ⟨ol,hol,hcl,nl,hdl⟩:=hl;have hol':G.get? l=some ol:=upG l ol hol;obtain ⟨ocls,odict,odata,oslots⟩:=ol;simp only at hcl hdl;subst hcl;subst hdl;have hsls:=F.sub_list_set;have hslf:=F.sub_list_frozenset
    have hne:(Value.type "list" == Value.type "dict")=false:=by decide
    have hl1:G.IsList l items:=⟨_,hol',rfl,nl,rfl⟩;unfold Builtin.«set.__init__» noKeywords Builtin.Frozenset.updateFrom;generalize hPI:pyIter=PI
    wp_walk
    subst hPI;refine yb7 hl1 ?_;refine yaa (wpAny_runValue ?_);have hlS:l<s.heap.objs.size:=yaj hol
    have hh3:A.in1.in1.in1.handled=none:=by simp [hh]
    have hneI:l≠G.objs.size:=by rw [hGz];exact yap (ybe hlS)
    have hSf:s.heap.objs.size ∉ [G.objs.size,l]:=by
     rw [hGz];simp only [yan,yaX,yaJ,ybM,not_or];exact ⟨yap (ybj _),yaT hlS⟩
    have hval:∀(i:Nat) (v:Value),items[i]?=some v->∃t,v=.int ((fun i=>ns.getD i 0) i) t:=fun i v hv =>
     PyProof.Rows.IntsAre.int_at hi i v (by rw [yaZ];exact hv)
    refine ST.zfn ((Walks.list hh3 _ l hneI items).toS) s.heap.objs.size hSf (fun i=>ns.getD i 0) hval (fun i hi=>?_) (items.size-0) 0 _ (by omega) (ya1 _)
     ⟨⟨_,yag _ rfl,rfl,rfl⟩,(hl1.push _)⟩ ?hS0 ?hR
    ·have hlt:i<ns.length:=by omega
     show 0<=ns.getD i 0/\ns.getD i 0<8;rw [yaP,yac hlt];exact hs _ (ybk hlt)
    case hS0=>exact ST.ISet.fresh (yad _ hS)
    case hR =>
     intro s' hm hS';rw [ern] at hS';obtain ⟨h',g',d',tk',os'⟩:=s';have eg:g'=s.gens:=hm.gens;have ed:d'=s.drawn:=hm.drawn;have eo:os'=s.os:=hm.os;subst eg;subst ed;subst eo;show wpAny _ _ _ _ _ _;refine yae ?_;show wpAny _ _ (ret Value.none) _ _ _;refine yae ⟨rfl,h',tk',rfl,hS',fun b o e=>?_⟩;have hb1:b≠s.heap.objs.size:=yap (yaj e)
     have hb2:b≠G.objs.size:=by rw [hGz];exact yap (ybe (yaj e))
     exact hm.heap b o (by simp only [yan,yaX,yaJ,ybM,not_or];exact ⟨hb1,hb2⟩) (yad _ (upG b o e))
   ·cases r₂ with
    | error e=>exact hr₂
    | ok fl₂ =>
     cases fl₂ with
     | ret r =>
      obtain ⟨rfl,h',tk,rfl,hS',hk'⟩:=hr₂
      repeat (any_goals (first | assumption | wp_step))
      exact h _ _ hS' hk'
     | _=>exact hr₂.elim
  | _=>exact hr.elim
end
section
variable{prog:Program}{w:World}{A:Around}{E:Z5}{s:Shared}
def zh0{l:Addr}{items:Array Value}{ns:List Int}{Q:Z5}
  (hh:A.handled=none) (hl:s.heap.IsTuple l items) (hi:PyProof.Rows.IntsAre items.toList ns) (hs:∀k∈ns,0<=k/\k<8)
  (h:∀(h':Heap) (tk:Nat),ST.ISet w h' s.heap.objs.size ns->(∀b o,s.heap.get? b=some o->h'.get? b=some o)->Q (.ref s.heap.objs.size) { s with heap:=h',toks:=tk }) :
  wpAny (model prog w) A (call (.type "set") [.ref l]) Q E s:=by
 have hnl:items.size=ns.length:=by rw [<-yaz];exact PyProof.Rows.IntsAre.length hi
 have ern:(List.range items.size).map (fun i=>ns.getD i 0)=ns:=by
  apply ybS;intro i;rw [yaq,hnl]
  by_cases hi:i<ns.length
  ·rw [List.getElem?_range hi,yac hi];show some (ns.getD i 0)=_;rw [yaP,yac hi];rfl
  ·rw [ybf (by rw [yb9];omega),ybf (by omega)];rfl
 obtain ⟨c,tl,hmro⟩:=ya7.mro;have hmade:=ya7.made;have hsub:=ya7.sub;refine ycV (yc2 ?_);show wpAny _ _ (callAny (.type "set") _) _ _ _;refine yae ⟨yc9 _ (by decide +kernel),ybr F.entry_type_call ?_⟩;rw [Around.under_plain (weight_type_call_type "set" [.ref l] []) rfl];have h1:=ya7.notType;have h2:=ya7.canCreate;have hct:=F.typeCall_set_1 (.ref l)
 repeat (any_goals (first | assumption | wp_step))
 refine ybB (zcC (.ref l) (E:=E) (Q₁:=fun obj s₁=>obj=.ref s.heap.objs.size/\s₁={ s with heap:=s.heap.push { cls:=.type "set",dict:=none,data:=.set #[] 0 (.fresh 0 0 (!ST.byT w)) } }) ⟨rfl,rfl⟩) fun r s₁ hr=>?_
 cases r with
 | error e=>exact hr
 | ok fl =>
  cases fl with
  | ret obj =>
   obtain ⟨rfl,rfl⟩:=hr;generalize hG:s.heap.push { cls:=.type "set",dict:=none,data:=.set #[] 0 (.fresh 0 0 (!ST.byT w)) }=G;have hS:G.get? s.heap.objs.size=some { cls:=.type "set",dict:=none,data:=.set #[] 0 (.fresh 0 0 (!ST.byT w)) }:=hG ▸ yag _ rfl;have upG:∀b o,s.heap.get? b=some o->G.get? b=some o:=fun b o e=>hG ▸ yad _ e
   have hGz:G.objs.size=s.heap.objs.size+1:=by rw [<-hG,yaS]
   have hT:Shared.TypeIs { s with heap:=G } (.ref s.heap.objs.size) "set":=⟨_,hS,rfl⟩;have hli:=ya7.init.lookup;have hbi:=ya7.init.bind (.ref s.heap.objs.size)
   repeat (any_goals (first | assumption | wp_step))
   refine ybB (ycd (R:=wants (fun r s₂=>r=.none/\∃h' tk,s₂={ s with heap:=h',toks:=tk }/\ST.ISet w h' s.heap.objs.size ns ∧
     (∀b o,s.heap.get? b=some o->h'.get? b=some o)) E) ya7.init.plain F.entry_set_init (check_set_init_1 hT ?_)) fun r₂ s₂ hr₂=>?_
   ·obtain ⟨ol,hol,hcl,nl,hdl⟩:=hl;have hol':G.get? l=some ol:=upG l ol hol;obtain ⟨ocls,odict,odata,oslots⟩:=ol;simp only at hcl hdl;subst hcl;subst hdl;have hsls:=F.sub_tuple_set;have hslf:=F.sub_tuple_frozenset
    have hne:(Value.type "tuple" == Value.type "dict")=false:=by decide
    have hl1:G.IsTuple l items:=⟨_,hol',rfl,nl,rfl⟩;unfold Builtin.«set.__init__» noKeywords Builtin.Frozenset.updateFrom;generalize hPI:pyIter=PI
    wp_walk
    subst hPI;refine ybL hl1 ?_;refine yaa (wpAny_runValue ?_);have hlS:l<s.heap.objs.size:=yaj hol
    have hh3:A.in1.in1.in1.handled=none:=by simp [hh]
    have hneI:l≠G.objs.size:=by rw [hGz];exact yap (ybe hlS)
    have hSf:s.heap.objs.size ∉ [G.objs.size,l]:=by
     rw [hGz];simp only [yan,yaX,yaJ,ybM,not_or];exact ⟨yap (ybj _),yaT hlS⟩
    have hval:∀(i:Nat) (v:Value),items[i]?=some v->∃t,v=.int ((fun i=>ns.getD i 0) i) t:=fun i v hv =>
     PyProof.Rows.IntsAre.int_at hi i v (by rw [yaZ];exact hv)
    refine ST.zfn ((Walks.tuple hh3 _ l hneI items).toS) s.heap.objs.size hSf (fun i=>ns.getD i 0) hval (fun i hi=>?_) (items.size-0) 0 _ (by omega) (ya1 _)
     ⟨⟨_,yag _ rfl,rfl,rfl⟩,(hl1.push _)⟩ ?hS0 ?hR
    ·have hlt:i<ns.length:=by omega
     show 0<=ns.getD i 0/\ns.getD i 0<8;rw [yaP,yac hlt];exact hs _ (ybk hlt)
    case hS0=>exact ST.ISet.fresh (yad _ hS)
    case hR =>
     intro s' hm hS';rw [ern] at hS';obtain ⟨h',g',d',tk',os'⟩:=s';have eg:g'=s.gens:=hm.gens;have ed:d'=s.drawn:=hm.drawn;have eo:os'=s.os:=hm.os;subst eg;subst ed;subst eo;show wpAny _ _ _ _ _ _;refine yae ?_;show wpAny _ _ (ret Value.none) _ _ _;refine yae ⟨rfl,h',tk',rfl,hS',fun b o e=>?_⟩;have hb1:b≠s.heap.objs.size:=yap (yaj e)
     have hb2:b≠G.objs.size:=by rw [hGz];exact yap (ybe (yaj e))
     exact hm.heap b o (by simp only [yan,yaX,yaJ,ybM,not_or];exact ⟨hb1,hb2⟩) (yad _ (upG b o e))
   ·cases r₂ with
    | error e=>exact hr₂
    | ok fl₂ =>
     cases fl₂ with
     | ret r =>
      obtain ⟨rfl,h',tk,rfl,hS',hk'⟩:=hr₂
      repeat (any_goals (first | assumption | wp_step))
      exact h _ _ hS' hk'
     | _=>exact hr₂.elim
  | _=>exact hr.elim
end
end PySem
namespace L2
open PySem PySem.Spec PyProof.Rows
section
variable{X:Cx}
theorem zeW:∀{ns:List Int} {vs:List Value},Vals (ns.map V.int) vs->IntsAre vs ns
 | [],_,r=>by rw [List.map_nil] at r;cases r;exact .nil
 | n::ns,_,r=>by
  rw [yaR] at r
  cases r with
  | cons h t =>
   obtain ⟨u,e⟩:=(show ∃t,_=Value.int n t from h);subst e;exact .cons n u (zeW t)
theorem zdT(hc:X.calm=true):zbg X (.type "set") (fun xs H Q=>∃(p:Addr) (ns:List Int),xs=[.ref p]/\SqT X.K H p (ns.map V.int)/\(∀k∈ns,0<=k/\k<8)/\∀l,H l=none->Q (.ref l) (upd H l (.ext (zhq l (ST.zaf ns).length)))):=by
 intro pins s σ H xs us Q I r h;obtain ⟨p,ns,rfl,hq,hs,q⟩:=h;obtain ⟨u,rfl,rx⟩:=zce r;cases rx;obtain ⟨its,rv,pl,hz⟩:=I.tuple hq;refine zh0 (I.ok.hd hc) (show s.heap.IsTuple p its.toArray from pl) (by simpa using zeW rv) hs fun h' tk S kp=>?_
 refine ⟨.ref s.heap.objs.size,_,I.laid (t':=tk) (o:=.ext (zhq s.heap.objs.size (ST.zaf ns).length)) kp (yah _) ?_,rfl,q _ (I.hok.fresh (yah _))⟩;obtain ⟨o,es,ep,t,e1,e2,e3,h1,h2,_,_,h3,h4⟩:=S.ex;exact ⟨⟨o,es,ep,t,e1,e2,e3,ST.zbR ST.zaF h1 h2 (h3.imp id fun z=>⟨z.1,by omega⟩) h4,by rw [<-yaz,h4.len]⟩,⟨o,e1⟩,fun h1 h2 ⟨o,es,ep,t,f1,f⟩ k=>⟨o,es,ep,t,k o f1,f⟩⟩
end
end L2
namespace S2
open PySem PySem.Spec PyProof.Rows L2
def zcO:D->Option D | .tup l=>(zbE l).bind fun ns=>if ns.all (fun k=>decide (0<=k/\k<8)) then some (.int ((ST.zaf ns).length:Nat)) else none | _=>none
section
variable{X:Cx}{cl:Cf}{E:St->XK}{e:Expr}{f:Fe}{pos:Pos}
theorem zhE(hc:X.calm=true)(hg:Gl X "len")(hm:X.mg "len" = none)(hg2:Gl X "set")(hm2:X.mg "set" = none)(he:PE X e (tE cl E f))(hs:starEach [e] X.env=[(false,eval e X.env)]) :
  PE X (.Call (.Name "len" p) [.Call (.Name "set" p2) [e] [] pos2] [] pos) (tE cl E (eUn zcO f)):=by
 refine PE.imp (zcq zeO hg hm PySem.boot_len (zat (zbP (zdT hc) hg2 hm2 (by decide +kernel) (zak he zbh hs) (he:=hs) (hpl:=rfl)) zaV)) ?_;rintro σ H Q ⟨B,w,ρ,S,rfl,R,q⟩;refine ⟨B,w,ρ,S,rfl,R,?_⟩;unfold eUn at q
 cases hf:f ρ S with
 | bad=>rw [hf] at q;exact q.elim
 | exc c S1=>rw [hf] at q;simp only [zag,hf,Out.bind];exact q
 | ok d S1 =>
  rw [hf] at q;simp only [zag,hf,Out.bind];intro vs w1 R1 F1 sh;dsimp only [Out.bind] at q
  cases d with
  | tup l =>
   cases hk:zbE l with
   | none=>simp [zcO,hk,Out.of] at q
   | some ns =>
    by_cases h8:ns.all (fun k=>decide (0<=k/\k<8))=true
    ·simp only [zcO,hk,Option.bind,h8,ybY] at q
     cases sh with
     | cons h1 hn =>
      cases hn
      cases h1 with
      | tup ep k r =>
       have er:=zcw r hk;subst er;refine ⟨_,ns,rfl,SqT.of ep,fun k hk=>yal (ybv.mp h8 k hk),fun l hl=>?_⟩;have hd:=ST.zaF (ks:=ns);refine ⟨l,_,rfl,zaj,by omega,?_⟩;exact q _ (w1.add l (.ext (zhq l (ST.zaf ns).length))) (R1.grow (zah hl _)) (F1.trans (zah hl _).fut) (.int _)
    ·rw [Bool.not_eq_true] at h8;simp only [zcO,hk,Option.bind,h8,yaA,ybs] at q;exact q.elim
  | _=>exact q.elim
end
end S2
namespace ST
open PySem PySem.Spec PyProof.Rows
theorem zaR:Slot "set_iterator" "__next__" "set_iterator.__next__" :=
 .of (owner:="set_iterator") (n:="__next__") (by rw [ybI,ya6];kernel_rfl) (by decide +kernel) (by decide +kernel) (by decide +kernel)
  (by first | exact .inl (by decide +kernel) | exact .inr (by decide +kernel)) (by rw [ybq];kernel_rfl)
theorem zcV:Slot "set_iterator" "__iter__" "set_iterator.__iter__" :=
 .of (owner:="set_iterator") (n:="__iter__") (by rw [ybI,ya6];kernel_rfl) (by decide +kernel) (by decide +kernel) (by decide +kernel)
  (by first | exact .inl (by decide +kernel) | exact .inr (by decide +kernel)) (by rw [ybq];kernel_rfl)
def zcA:entryFor table "set_iterator.__next__" = some Builtin.«set_iterator.__next__»:=entryFor_of_tree (by kernel_rfl)
theorem zeI:entryFor table "set_iterator.__iter__" = some Builtin.«dict_keyiterator.__iter__» :=
 entryFor_alias (id':="dict_keyiterator.__iter__") (by kernel_rfl) rfl (by decide +kernel) (by kernel_rfl)
theorem zfy:entryFor table "set.__iter__" = some Builtin.«frozenset.__iter__» :=
 entryFor_alias (id':="frozenset.__iter__") (by kernel_rfl) rfl (by decide +kernel) (by kernel_rfl)
def zgV:Manifest.owners.lookup (String.ofList ['r','o','t','a','r','e','t','i','_','t','e','s'].reverse)=some Manifest.sig_set_iterator:=by kernel_rfl
def zc9(a:Value):argsOk "set_iterator.__next__" ⟨[a],[]⟩:=by
 unfold argsOk;rw [ycS (id:="set_iterator.__next__") (n:=['_','_','t','x','e','n','_','_']) (o:=['r','o','t','a','r','e','t','i','_','t','e','s']) (by kernel_rfl) zgV];kernel_rfl
def zfS(a:Value):argsOk "set_iterator.__iter__" ⟨[a],[]⟩:=by
 unfold argsOk;rw [ycS (id:="set_iterator.__iter__") (n:=['_','_','r','e','t','i','_','_']) (o:=['r','o','t','a','r','e','t','i','_','t','e','s']) (by kernel_rfl) zgV];kernel_rfl
noncomputable def SAt(w:World)(h:Heap)(a:Addr)(ks:List Int)(es:Array (Int×Value))(ep:Nat)(t:SetTable):Prop :=
 (∃o,h.get? a=some o/\o.ExactSet/\o.data=.set es ep t)/\t.place.toList=(zaf ks).map Int.toNat/\t.dummies=#[]/\t.plain=true/\t.led=!byT w/\(t.mask=31\/(t.mask=7/\(zaf ks).length<=4))/\Els (zaf ks) es.toList
def ISet.sat(x:ISet w h a ks):∃es ep t,SAt w h a ks es ep t:=by
 obtain ⟨o,es,ep,t,h1,h2,h3,r⟩:=x.ex;exact ⟨es,ep,t,⟨o,h1,h2,h3⟩,r⟩
def SAt.at(x:SAt w h a ks es ep t)(e:∀o,h.get? a=some o->h'.get? a=some o):SAt w h' a ks es ep t :=
 let ⟨⟨o,h1,r⟩,q⟩:=x;⟨⟨o,e o h1,r⟩,q⟩
noncomputable def zlT(h:Heap)(it a:Addr)(sl i n ep:Nat):Prop:=∃o,h.get? it=some o/\o.cls=.type "set_iterator" /\ o.data=.fields #[.int sl 0,.int i 0,.ref a,.int n 0,.int ep 0]
def zlT.typeIs{s:Shared}(x:zlT s.heap it a sl i n ep):s.TypeIs (.ref it) "set_iterator":=let ⟨o,ho,hc,_⟩:=x;⟨o,ho,hc⟩
def zlT.at(x:zlT h it a sl i n ep)(e:∀o,h.get? it=some o->h'.get? it=some o):zlT h' it a sl i n ep:=let ⟨o,ho,r⟩:=x;⟨o,e o ho,r⟩
def zh7(w:World)(a:Addr)(ep:Nat)(es:Array (Int×Value)):Array (Int×Value):=if byT w then pickOrder (w.params.setOrder a ep) es else es
def slN(w:World)(l:List Int)(i:Nat):Nat:=if byT w then 0 else if i=0 then 0 else (l.getD (i-1) 0).toNat+1
theorem zd9{α:Type}:∀(l:List α) (i:Nat) (h:i<l.length),([l[i]]++l.eraseIdx i).Perm l
 | x::xs,0,_=>List.Perm.refl _
 | x::xs,i+1,h=>by
  have h':i<xs.length:=by simpa using h
  exact (List.Perm.swap x (xs[i]'h') (xs.eraseIdx i)).trans (List.Perm.cons x (zd9 xs i h'))
theorem ziQ{α:Type}:∀(fuel k:Nat) (left:List α) (out:Array α),left.length<=fuel->(pickOrder.go next fuel k left out).toList.Perm (out.toList++left)
 | 0,k,left,out,h=>by
  have:left=[]:=ybx (by omega);subst this;unfold pickOrder.go;rw [yaV]
 | fuel+1,k,[],out,h=>by
  unfold pickOrder.go;have:([]:List α)[next k % ([]:List α).length]?=none:=rfl;rw [this,yaV]
 | fuel+1,k,x::xs,out,h=>by
  have hlt:next k % (x::xs).length<(x::xs).length:=Nat.mod_lt _ (by simp);unfold pickOrder.go;rw [yac hlt];dsimp only
  have hl:((x::xs).eraseIdx (next k % (x::xs).length)).length<=fuel:=by
   rw [List.length_eraseIdx_of_lt hlt];simp at h ⊢;exact h
  refine (ziQ fuel (k+1) _ _ hl).trans ?_;rw [Array.toList_push,ydf];refine List.Perm.append_left _ ?_;exact zd9 _ _ hlt
def ziP{α:Type}(xs:Array α):(pickOrder next xs).toList.Perm xs.toList:=by
 have:=ziQ (next:=next) xs.size 0 xs.toList #[] (by simp);unfold pickOrder;simpa using this
def zeu:(zh7 w a ep es).toList.Perm es.toList:=by
 unfold zh7;split
 ·exact ziP es
 ·exact List.Perm.refl _
def zdc:(zh7 w a ep es).size=es.size:=by
 rw [<-yaz,zeu.length_eq,yaz]
section
variable{prog:Program}{w:World}{A:Around}{E:Z5}{s:Shared}{a:Addr}{ks:List Int}{es:Array (Int×Value)}{ep:Nat}{t:SetTable}
theorem SAt.fits(x:SAt w h a ks es ep t):t.fits es.size=true:=by
 obtain ⟨_,h1,h2,_,_,h3,h4⟩:=x;exact zbR zaF h1 h2 (h3.imp id fun z=>⟨z.1,by omega⟩) h4
def zcm(x:SAt w s.heap a ks es ep t)(h:Q (es,ep,t) s):wpAny (model prog w) A (setState a) Q E s:=by
 obtain ⟨o,ho,_,hd⟩:=x.1;exact wpAny_setState_of ho hd x.fits h
def zib(h:Q (byT w) s):wpAny (model prog w) A setsByText Q E s:=by
 unfold setsByText;exact yaa (wpAny_askSetting (yae h))
theorem zlP{l:List Int}{place:Array Nat}(h1:place.toList=l.map Int.toNat)(hs:l.Pairwise (· < ·))(h0:∀x∈l,0<=x)(hi:i<=l.length):SetTable.below place (if i=0 then 0 else (l.getD (i-1) 0).toNat+1)=i:=by
 refine zdJ ?_;have ps:=zbO hs h0;rw [h1];refine ⟨by rw [yao];exact hi,?_,?_⟩
 ·intro k x hk hx;split
  ·omega
  ·rename_i hne;rw [yaq] at hx
   have hkl:k<l.length:=by omega
   have hil:i-1<l.length:=by omega
   rw [yac hkl] at hx;cases hx;rw [yaP,yac hil];show l[k].toNat<l[i-1].toNat+1
   rcases Nat.lt_or_ge k (i-1) with z | z
   ·have:=List.pairwise_iff_getElem.mp hs k (i-1) hkl hil z;have:=h0 _ (ybk hkl);omega
   ·have:k=i-1:=by omega
    subst this;omega
 ·intro k x hk hx;split
  ·omega
  ·rename_i hne;rw [yaq] at hx
   have hkl:k<l.length:=by
    rcases Nat.lt_or_ge k l.length with z | z
    ·exact z
    ·rw [ybf z] at hx;cases hx
   have hil:i-1<l.length:=by omega
   rw [yac hkl] at hx;cases hx;rw [yaP,yac hil];show l[i-1].toNat+1<=l[k].toNat;have:=List.pairwise_iff_getElem.mp hs (i-1) k hil hkl (by omega);have:=h0 _ (ybk hil);omega
theorem zia(x:SAt w s.heap a ks es ep t)(hi:i<=es.size)
  (h:Q ((zh7 w a ep es)[i]?.map fun e=>(e.2,slN w (zaf ks) (i+1))) s):wpAny (model prog w) A (setNext a (slN w (zaf ks) i) i ep) Q E s:=by
 obtain ⟨_,h1,h2,h5,h6,h3,h4⟩:=id x;unfold setNext;refine yaa (zcm x ?_);dsimp only;refine yaa (zib ?_);unfold zh7 slN at h;unfold slN
 cases hb:byT w with
 | true =>
  rw [hb] at h;simp only [ybY] at h ⊢;rw [if_neg (by simp)];refine yaa ?_;unfold setWalk;refine yaa (zcm x ?_);dsimp only;refine yaa (zib ?_);rw [hb];simp only [ybY];refine yaa (wpAny_askSetting (yae ?_));exact yae h
 | false =>
  rw [hb] at h h6;simp only [yaA,ybs] at h ⊢;obtain ⟨mask,place,dummies,finger,led,moves,plain⟩:=t;simp only at h1 h2 h5 h6 h3;subst h5 h6;refine ycs (fun z=>absurd z yaG) (fun _=>?_);refine yaa (yba (a:=()) rfl ?_)
  have hz:es.size=(zaf ks).length:=by rw [<-yaz,h4.len]
  rw [zlP h1 zaW zbT (by omega)];refine yae ?_
  rcases Nat.lt_or_ge i es.size with z | z
  ·have hl:i<(zaf ks).length:=by omega
   have e1:es[i]?=some es[i]:=yaU z
   have e2:place[i]?=some ((zaf ks)[i]).toNat:=by
    rw [<-yaZ,h1,yaq,yac hl];rfl
   rw [e1] at h ⊢;rw [e2]
   have e3:(zaf ks).getD (i+1-1) 0=(zaf ks)[i]:=by
    rw [Nat.add_sub_cancel,yaP,yac hl];rfl
   rwa [if_neg (by omega),e3] at h
  ·have e1:es[i]?=none:=yb0 z;rw [e1] at h ⊢;exact h
end
section
variable{prog:Program}{w:World}{A:Around}{E:Z5}{s:Shared}{a it:Addr}{ks:List Int}{es:Array (Int×Value)}{ep:Nat}{t:SetTable}
def zcH(x:SAt w s.heap a ks es ep t)(h:Q es s):wpAny (model prog w) A (setEntries a) Q E s:=by
 unfold setEntries;exact yaa (zcm x (yae h))
theorem ziw{Q:Z5}(x:SAt w s.heap a ks es ep t)
  (hQ:Q (.ref s.heap.objs.size) { s with heap:=s.heap.push { cls:=.type "set_iterator",data:=.fields #[.int 0 0,.int 0 0,.ref a,.int es.size 0,.int ep 0] } }):wpAny (model prog w) A (pyIter (.ref a)) Q E s:=by
 obtain ⟨⟨o,ho,hx,hd⟩,_,_,h5,_⟩:=id x;have hT:s.TypeIs (.ref a) "set":=⟨o,ho,hx.1⟩;refine ydj hT PySem.F.slot_set_iter (yaI PySem.F.slot_set_iter hT zfy ?_ (PySem.F.args_set_iter_1 _));unfold Builtin.«frozenset.__iter__»;refine yaa (yba (a:=a) rfl ?_);refine yaa ?_;unfold Builtin.Frozenset.sizeOf;refine yaa (zcH x (yae ?_));refine yaa ?_;unfold setDrawn;refine yaa (zcm x ?_);dsimp only;refine yaa (zib ?_);refine yae ?_;obtain ⟨mask,place,dummies,finger,led,moves,plain⟩:=t;simp only at h5;subst h5
 refine ycs (fun z=>absurd z (by
  cases byT w
  ·exact yaG
  ·exact yaG)) (fun _=>?_)
 refine yaa (yae ?_);refine yaa ?_;unfold setEpoch;refine yaa (zcm x (yae ?_));refine yaa (yaK (yae ⟨_,rfl,"set_iterator",_,⟨_,yag _ rfl,rfl⟩,zaR.lookup,hQ⟩))
def zne{Q:Option Value->Shared->Prop}{i:Nat}{e:Int×Value}(hit:zlT s.heap it a (slN w (zaf ks) i) i es.size ep)(x:SAt w s.heap a ks es ep t)(hx:(zh7 w a ep es)[i]?=some e)
  (hQ:∀h',zlT h' it a (slN w (zaf ks) (i+1)) (i+1) es.size ep->Heap.SameBut it s.heap h'->Q (some e.2) { s with heap:=h' }):wpAny (model prog w) A (pyNext (.ref it)) Q E s:=by
 obtain ⟨o,ho,hc,hd⟩:=id hit
 have hlt:i<=es.size:=by
  have:=(ybK.mp hx).1;rw [zdc] at this;omega
 unfold pyNext;refine yaa (ybN (yaM (name:=Str.ofString "__next__") hit.typeIs zaR (yaI zaR hit.typeIs zcA ?_ (zc9 _))));unfold Builtin.«set_iterator.__next__»;refine yaa (yae ?_);refine yaa (wpAny_fieldsOf ho hd ?_);dsimp only;refine yaa (zcH x ?_);rw [if_neg (by simp)];refine yaa ?_;rw [ybo,ybo,ybo];refine zia x hlt ?_;rw [hx];show wpAny _ _ (setField (.ref it) 0 (rawInt (slN w (zaf ks) (i+1))) >>= _) _ _ s;refine yaa (ycF ho hd (by simp) ?_);have ho1:=yaY (Obj.mapFields (·.setIfInBounds 0 (rawInt (slN w (zaf ks) (i+1))))) ho (ycJ (ybh hd _));refine yaa (ycF (s:={ s with heap:=s.heap.update it (Obj.mapFields (·.setIfInBounds 0 (rawInt (slN w (zaf ks) (i+1))))) }) ho1 (ybh hd _) (by simp) ?_);have ho2:=yaY (Obj.mapFields (·.setIfInBounds 1 (rawInt ((i:Int)+1)))) ho1 (ycJ (ybh (ybh hd _) _));refine yae ⟨_,rfl,yae (hQ _ ⟨_,ho2,?_,?_⟩ ((Heap.SameBut.update ..).trans (Heap.SameBut.update ..)))⟩
 ·exact (ydi ..).trans ((ydi ..).trans hc)
 ·rw [ybh (ybh hd _)];simp [rawInt]
def zpo{Q:Option Value->Shared->Prop}(hh:A.handled=none)(hit:zlT s.heap it a (slN w (zaf ks) es.size) es.size es.size ep)(x:SAt w s.heap a ks es ep t)(hQ:∀h',Heap.ExtBut it s.heap h'->Q none { s with heap:=h' }):wpAny (model prog w) A (pyNext (.ref it)) Q E s:=by
 obtain ⟨o,ho,hc,hd⟩:=id hit;unfold pyNext;refine yaa (ybN (yaM (name:=Str.ofString "__next__") hit.typeIs zaR (yaI zaR hit.typeIs zcA ?_ (zc9 _))));unfold Builtin.«set_iterator.__next__»;refine yaa (yae ?_);refine yaa (wpAny_fieldsOf ho hd ?_);dsimp only;refine yaa (zcH x ?_);rw [if_neg (by simp)];refine yaa ?_;rw [ybo,ybo,ybo];refine zia x (yah _) ?_;have hn:(zh7 w a ep es)[es.size]?=none:=yb0 (by rw [zdc];exact yah _);rw [hn];show wpAny _ _ (setField (.ref it) 2 .none >>= _) _ _ s;refine yaa (ycF ho hd (by simp) ?_);show wpAny _ _ (newExc (.type "StopIteration") [] >>= _) _ _ _;refine yaa ?_;simp only [newExc,newTuple];refine yaa (yaK ?_ (by size_fits));refine yaa (m:=firstArgMember _ _) (yba (a:=Value.none) (by first | rfl | (simp only [firstArgMember];rfl)) ?_);refine yaK ?_ (by size_fits);simp only [raiseNew];refine yaa (wpAny_handled ?_);rw [show A.in1.handled=none from hh];refine yaa (yae (wpAny_throw ?_));refine yaa (ybl (T:="StopIteration") (b:=true) ⟨_,yag _ rfl,rfl⟩ ydc ?_);exact yae (hQ _ (((Heap.SameBut.update ..).extBut.push _).push _))
def zic(hh:A.handled=none)(I:Addr)(hne:a≠I):Walks prog w A I [I,a] [I] es.size (fun i v=>∃e,(zh7 w a ep es)[i]?=some e/\e.2=v) (fun i h=>zlT h I a (slN w (zaf ks) i) i es.size ep/\SAt w h a ks es ep t) where
 sub:=fun b hb=>by simp at hb;simp [hb]
 frame:=fun _ _ _ st hk=>⟨st.1.at fun o e=>hk I (by simp) o e,st.2.at fun o e=>hk a (by simp) o e⟩
 item:=fun i s Q E hi st hQ=>by
  obtain ⟨e,hx⟩:∃e,(zh7 w a ep es)[i]?=some e:=⟨_,yaU (by rw [zdc];exact hi)⟩;refine zne st.1 st.2 hx fun h' hit' hs'=>?_
  exact hQ e.2 h' s.toks ⟨e,hx,rfl⟩ ⟨hit',st.2.at fun o e=>hs'.extBut a o hne e⟩ fun b o hb e=>hs'.extBut b o (fun h=>hb (by simp [h])) e
 done:=fun s Q E st hQ=>zpo hh st.1 st.2 fun h' he'=>hQ h' s.toks fun b o hb e=>he' b o (fun h=>hb (by simp [h])) e
 self:=fun i s Q E st hQ=>by
  refine ydj st.1.typeIs zcV (yaI zcV st.1.typeIs zeI ?_ (zfS _));show wpAny _ _ (ret (.ref I)) _ _ s;exact yae ⟨_,rfl,"set_iterator",_,st.1.typeIs,zaR.lookup,hQ⟩
end
open PySem PySem.Spec PySem.W PyProof.Rows
section
variable{prog:Program}{w:World}{A:Around}{E:Z5}{s:Shared}{a:Addr}{ks:List Int}{es:Array (Int×Value)}{ep:Nat}{t:SetTable}
theorem zln(hT:s.TypeIs (.ref r) "set")(h:Q false s):wpAny (model prog w) A (Builtin.List.listLengthHint (.ref r)) Q E s:=by
 unfold Builtin.List.listLengthHint;refine yaa (ybH hT PySem.F.slot_set_len.lookup ?_);generalize hid:("set.__len__":String)=id0
 wp_delta
 rw [show splitId id0=some ("set","__len__") from by subst hid;decide +kernel];subst hid;refine yaa (ybl (T:="set") (b:=true) hT (by rw [ybq];kernel_rfl) ?_);refine ycs (fun hab=>absurd hab (by decide)) (fun _=>?_);refine ycs (fun _=>?_) (fun hab=>absurd (by decide +kernel) hab);refine yaa (yb2 hT ?_);exact yae h
def SAt.typeIs(x:SAt w s.heap a ks es ep t):s.TypeIs (.ref a) "set":=let ⟨⟨o,ho,hx,_⟩,_⟩:=x;⟨o,ho,hx.1⟩
def SAt.lt(x:SAt w h a ks es ep t):a<h.objs.size:=let ⟨⟨_,ho,_⟩,_⟩:=x;yaj ho
def zn3:KdlSrc prog w "set" a a es.size (fun i v=>∃e,(zh7 w a ep es)[i]?=some e/\e.2=v) (fun h=>SAt w h a ks es ep t) where
 type:=fun _ x=>x.typeIs
 there:=fun _ x=>⟨x.lt,x.lt⟩
 keep:=fun _ _ x hk=>x.at fun o e=>hk a (.inl rfl) o e
 notList:=by decide
 notTuple:=by decide
 hint:=fun _ _ _ _ x hq=>zln x.typeIs hq
 iter:=fun A s hh x=>⟨_,_,(fun _ _ hq=>ziw x hq),zic hh _ (yap x.lt),by
  refine ⟨⟨_,yag _ rfl,rfl,?_⟩,x.at fun o e=>yad _ e⟩
  have:slN w (zaf ks) 0=0:=by unfold slN;split<;>rfl
  rw [this];rfl⟩
theorem zhA{Q:Z5}(hh:A.handled=none)(S:ISet w s.heap a ks)
  (h:∀(hm h':Heap) (tk e:Nat) (vs:List Value),(∀b o,s.heap.get? b=some o->hm.get? b=some o)->(∀b o,hm.get? b=some o->h'.get? b=some o)->h'.get? hm.objs.size=some (seqObj "list" vs.toArray e)->IntsAre vs (zaf ks)->Q (.ref hm.objs.size) { s with heap:=h',toks:=tk }) :
  wpAny (model prog w) A (call (.builtin "sorted") [.ref a]) Q E s:=by
 obtain ⟨es,ep,t,x⟩:=S.sat;have h4:=x.2.2.2.2.2.2
 have hz:es.size=(zaf ks).length:=by rw [<-yaz,h4.len]
 have h8:=zaF (ks:=ks);refine Calls.call_function_entry kind_sorted plain_sorted entry_sorted (args_sorted1 _) ?_;unfold Builtin.«sorted»;refine yaa (m:=checkCount "sorted" 1 1 _) (yae ?_);refine yaa (kdu_collect (A:=A.in1) (zn3 (prog:=prog)) hh x (by rw [hz];exact yas h8 (by decide)) fun h' tk acc hk hacc=>?_)
 have hl:acc.toList.length=es.size:=by rw [yaz];exact hacc.1
 refine yaa (wpAny_newList ?_ (by rw [hl,hz];exact yas h8 (by decide)));have hoL:(h'.push (seqObj "list" acc.toList.toArray 0)).get? h'.objs.size=some (seqObj "list" acc.toList.toArray 0):=yag _ rfl
 have hv:acc.toList=(zh7 w a ep es).toList.map (·.2):=by
  apply ybS;intro i;rw [yaq,yaZ,yaZ]
  rcases Nat.lt_or_ge i es.size with z | z
  ·have z':i<acc.size:=by rw [hacc.1];exact z
   obtain ⟨e,e1,e2⟩:=hacc.2 i acc[i] (yaU z');rw [yaU z',e1];show some acc[i]=some e.2;rw [e2]
  ·rw [yb0 (by rw [hacc.1];exact z),yb0 (by rw [zdc];exact z)];rfl
 obtain ⟨ns,hns,hp⟩:∃ns,IntsAre acc.toList ns/\ns.Perm (zaf ks):=by
  have go:∀l:List (Int×Value),(∀e∈l,∃k tk,e=(k,Value.int k tk))->IntsAre (l.map (·.2)) (l.map (·.1)):=by
   intro l
   induction l with
   | nil=>intro _;exact .nil
   | cons e l ih =>
    intro hm;obtain ⟨k,tk,rfl⟩:=hm e yaE;exact .cons k tk (ih fun e he=>hm e (yar _ he))
  refine ⟨(zh7 w a ep es).toList.map (·.1),?_,?_⟩
  ·rw [hv]
   exact go _ fun e he=>by
    obtain ⟨k,tk,_,z⟩:=h4.mem (zeu.mem_iff.mp he);exact ⟨k,tk,z⟩
  ·have:=(zeu (w:=w) (a:=a) (ep:=ep) (es:=es)).map (·.1);rwa [h4.hashes] at this
 refine yaa (ybp (yaI slot_list_sort ⟨_,hoL,rfl⟩ entry_list_sort (list_sort_tree (s:={ s with heap:=h'.push (seqObj "list" acc.toList.toArray 0),toks:=tk }) hoL hns (by rw [hl,hz];omega) fun out ns' a1 a2 a3=>⟨_,rfl,?_⟩) (args_list_sort _)));refine yae ⟨_,rfl,?_⟩;obtain ⟨e,he⟩:=sortedHeap_at (out:=out) hoL;have en:ns'=zaf ks:=lks_uniq (a2.trans hp) a3 (List.Pairwise.imp (fun {a b} h=>by omega) zaW);refine h h' _ tk e out.toList hk (fun b o hb=>?_) (by simpa using he) (by rw [<-en];exact a1);have hlt:b<h'.objs.size:=yaj hb;rw [sortedHeap_old (yap hlt) (by rw [size_push'];exact ybe hlt)];exact yad _ hb
end
end ST
namespace L2
open PySem PySem.Spec PyProof.Rows
section
variable{X:Cx}
noncomputable def zhr(w:World)(a:Addr)(ks:List Int)(h:Heap):Prop:=ST.ISet w h a ks
theorem zc1:∀{ns:List Int} {vs:List Value},Vals (ns.map V.int) vs->IntsAre vs ns
 | [],_,r=>by rw [List.map_nil] at r;cases r;exact .nil
 | n::ns,_,r=>by
  rw [yaR] at r
  cases r with
  | cons h t =>
   obtain ⟨u,e⟩:=(show ∃t,_=Value.int n t from h);subst e;exact .cons n u (zc1 t)
def zeS(h:IntsAre vs ns):Vals (ns.map V.int) vs:=by
 induction h with
 | nil=>exact .nil
 | cons n t _ ih=>exact .cons ⟨t,rfl⟩ ih
def zeL(hc:X.calm=true):zbg X (.type "set") (fun xs H Q=>∃(p:Addr) (ns:List Int),xs=[.ref p]/\SqL X.K H p (ns.map V.int)/\(∀k∈ns,0<=k/\k<8)/\∀l,H l=none->Q (.ref l) (upd H l (.ext (zhr X.w l ns)))):=by
 intro pins s σ H xs us Q I r h;obtain ⟨p,ns,rfl,hq,hs,q⟩:=h;obtain ⟨u,rfl,rx⟩:=zce r;cases rx;obtain ⟨its,rv,pl,hz⟩:=I.list hq;refine zj0 (I.ok.hd hc) pl.isList (by simpa using zc1 rv) hs fun h' tk S kp=>?_
 refine ⟨.ref s.heap.objs.size,_,I.laid (t':=tk) (o:=.ext (zhr X.w s.heap.objs.size ns)) kp (yah _) ?_,rfl,q _ (I.hok.fresh (yah _))⟩;refine ⟨S,?_,fun h1 h2 x k=>ST.ISet.keep x k⟩;obtain ⟨o,_,_,_,e,_⟩:=S.ex;exact ⟨o,e⟩
def zdI(hc:X.calm=true):zbg X (.builtin "sorted") (fun xs H Q=>∃(a:Addr) (ns:List Int),xs=[.ref a]/\H a=some (.ext (zhr X.w a ns))/\∀l,H l=none->Q (.ref l) (upd H l (.lst ((ST.zaf ns).map V.int)))):=by
 intro pins s σ H xs us Q I r h;obtain ⟨a,ns,rfl,ha,q⟩:=h;obtain ⟨u,rfl,rx⟩:=zce r;cases rx;obtain ⟨S,_⟩:=I.hok a _ ha;refine ST.zhA (I.ok.hd hc) S fun hm h' tk e vs k1 k2 hg hi=>?_
 have I1:=I.kept k1 (t':=tk);refine ⟨.ref hm.objs.size,_,I1.laid (h':=h') (t':=tk) (o:=.lst ((ST.zaf ns).map V.int)) k2 (yah _) (show zaX X.prog X.w _ h' _ (.lst _) from ⟨?_,vs,e,zeS hi,hg⟩),rfl,q _ (I1.hok.fresh (yah _))⟩;rw [yao];exact yas ST.zaF (by decide)
end
end L2
namespace S2
open PySem PySem.Spec PyProof.Rows L2
def zir:D->Option D | .lst l=>(zbE l).bind fun ns=>if ns.all (fun k=>decide (0<=k/\k<8)) then some (.lst ((ST.zaf ns).map D.int)) else none | _=>none
section
variable{X:Cx}{cl:Cf}{E:St->XK}{e:Expr}{f:Fe}{pos:Pos}
theorem ze2:∀{l:List Int},Shds cl w (l.map V.int) (l.map D.int)
 | []=>.nil
 | i::l=>.cons (.int i) (ze2 (l:=l))
theorem znk(hc:X.calm=true)(hK:X.K=cl.K)(hg:Gl X "sorted")(hm:X.mg "sorted" = none)(hg2:Gl X "set")(hm2:X.mg "set" = none)(he:PE X e (tE cl E f))(hs:starEach [e] X.env=[(false,eval e X.env)]) :
  PE X (.Call (.Name "sorted" p) [.Call (.Name "set" p2) [e] [] pos2] [] pos) (tN cl E (eUn zir f)):=by
 refine PE.imp (zcq (zdI hc) hg hm (by decide +kernel) (zat (zbP (zeL hc) hg2 hm2 (by decide +kernel) (zak he zbh hs) (he:=hs) (hpl:=rfl)) zaV)) ?_;rintro σ H Q ⟨B,w,ρ,S,rfl,R,q⟩;refine ⟨B,w,ρ,S,rfl,R,?_⟩;unfold eUn at q
 cases hf:f ρ S with
 | bad=>rw [hf] at q;exact q.elim
 | exc c S1=>rw [hf] at q;simp only [zag,hf,Out.bind];exact q
 | ok d S1 =>
  rw [hf] at q;simp only [zag,hf,Out.bind];intro vs w1 R1 F1 sh;dsimp only [Out.bind] at q
  cases d with
  | lst l =>
   cases hk:zbE l with
   | none=>simp [zir,hk,Out.of] at q
   | some ns =>
    by_cases h8:ns.all (fun k=>decide (0<=k/\k<8))=true
    ·simp only [zir,hk,Option.bind,h8,ybY] at q
     cases sh with
     | cons h1 hn =>
      cases hn
      cases h1 with
      | lst ep k r =>
       have er:=zcw r hk;subst er;refine ⟨_,ns,rfl,SqL.of ep,fun k hk=>yal (ybv.mp h8 k hk),fun l hl=>⟨l,ns,rfl,zaj,fun l2 hl2=>?_⟩⟩;exact q l2 _ (w1.add l (.ext (zhr X.w l ns))) (R1.grow (zah hl _)) (F1.trans (zah hl _).fut) hl2 (.lst ze2)
    ·rw [Bool.not_eq_true] at h8;simp only [zir,hk,Option.bind,h8,yaA,ybs] at q;exact q.elim
  | _=>exact q.elim
end
end S2
namespace L2
open PySem PySem.Spec PyProof.Rows
def zhT(l:Addr)(items:Array Value)(n:Nat)(b:Addr)(items2:Array Value)(hc0:¬(!items.isEmpty&&Builtin.List.listTooLong (items.size+items2.size))=true)(hc1:items.size<=sizeLine)(hs2:items.size+items2.size<=sizeLine+1) :
  Meets (Builtin.«list.extend» ⟨[.ref l,.ref b],[]⟩) (fun _ R s=>s.heap.get? l=some { cls:=.type "list",dict:=none,data:=.seq items n,slots:=#[] }/\IsTup s.heap b items2/\R (.ok (.ret Value.none)) { s with heap:=s.heap.update l (Obj.mapSeq fun x=>x++items2),toks:=s.toks }) :=
 .of_wp fun prog w A R s h=>by
  obtain ⟨hl,⟨o,ho,hc,n2,hd⟩,h⟩:=h
  have hz':(items++items2).size<=sizeLine+1:=by rw [Array.size_append];exact hs2
  show wpAny _ A.in1 (Builtin.List.listExtendWith (.ref l) (.ref b) .none) _ _ s;unfold Builtin.List.listExtendWith;refine yaa (yb2 ⟨o,ho,hc⟩ ?_)
  have h1:(Builtin.List.listSameRef (.ref l) (.ref b)||Value.type "tuple" == Value.type "list" || Value.type "tuple" == Value.type "tuple")=true:=by simp
  simp only [h1,ybY];refine yaa ?_;unfold Builtin.List.listItems;refine yaa (ybC ho hd (yae ?_));refine yaa ?_;refine yaa (ybC hl rfl (yae ?_));rw [if_neg hc0];show wpAny _ A.in1 (updateSeq l (·++items2) >>= fun _=>ret .none) _ _ s;refine yaa (yc0 hl rfl ?_ hc1 hz');exact yae ⟨_,rfl,h⟩
variable{X:Cx}
noncomputable def zkC:V->List V->Hp->VK->Prop:=fun x vs H Q=>∃l b xs zs,x=.ref l/\vs=[.ref b]/\H l=some (.lst xs)/\H b=some (.tup zs)/\xs.length+zs.length<=sizeLine/\Q .non (upd H l (.lst (xs++zs)))
def zhK:MtM X "list.extend" zkC:=by
 intro pins s σ H x vs v us Q I rx rv h;obtain ⟨l,b,xs,zs,rfl,rfl,hH,hB,hz,q⟩:=h;cases rx;obtain ⟨u,rfl,ru⟩:=rv.one;cases ru;obtain ⟨z,its,n,r,hl,e⟩:=I.lstM hH;obtain ⟨its2,r2,e2,z2⟩:=I.tuple (SqT.of hB);have hl2:zs.length=its2.length:=r2.length
 have hsz:its.toArray.size+its2.toArray.size<=sizeLine:=by rw [yaf,yaf];omega
 have hlong:¬ (!its.toArray.isEmpty&&Builtin.List.listTooLong (its.toArray.size+its2.toArray.size))=true:=by
  rw [zex hsz,Bool.and_false];exact yaG
 refine ybW F.slot_list_extend ⟨_,e,rfl⟩ F.entry_list_extend (F.args_list_extend_2 _ _)
  (zhT l its.toArray n b its2.toArray hlong (by rw [yaf];omega) (by omega)) ⟨e,e2,?_⟩
 refine ⟨.non,_,I.lset (its':=its++its2) hH e (by simp) (r.append r2) ?_,rfl,q⟩;rw [yau];omega
end L2
namespace S2
open PySem PySem.Spec PyProof.Rows L2
def znv(i:Nat)(fe:Fe):Fs:=fun ρ S=>match ρ[i]? with
 | some (some (true,.lst l))=>(match fe ρ S with
  | .ok (.tup k) S'=>if small (l.length+k.length) then .nx (ρ.set i (some (true,.lst (l++k)))) S' else .bad
  | .ok _ _=>.bad
  | .exc c S'=>.ex c ρ S' | .bad=>.bad)
 | _=>.bad
section
variable{X:Cx}{cl:Cf}{E:St->XK}{own:Bool}{e:Expr}{f:Fe}{pos pos':Pos}
def zm6(hN:X.N[i]?=some x)(hv:Vis X.env.scope x)(hd:(x == ("__debug__":Str))=false)(hcd:(x == ("__classdict__":Str))=false)(he:PE X e (tH cl E f))
  (hpl:zaB e=true) (hln:(ap.endLine == cp.line)=true):PS X (.Expr (.Call (.Attribute (.Name x pos') "extend" ap) [e] [] cp) pos) (tS cl E own (znv i f)):=by
 refine PS.imp (zdk (zhH (es:=[]) ybg PySem.F.slot_list_extend PySem.F.type_list_extend zhK (zaU hN hv hd hcd) (zat he zaV (zap hpl)) (hfew:=zc3 (by simp [hpl]) (by simp)) (hline:=hln) (hs:=zap hpl) (hplain:=rfl))) ?_;rintro De σ H ⟨B,w,ρ,S,rfl,R,q⟩;unfold znv at q;split at q
 ·rename_i l hl;obtain ⟨a,xs,e1,h1,h2,t⟩:=R.list hl;refine ⟨_,e1,.inl ⟨rfl,_,SqL.of h2⟩,B,w,ρ,S,rfl,R,?_⟩
  cases hf:f ρ S with
  | bad=>rwa [hf] at q
  | exc c S1=>rw [hf] at q;exact fun w' R' F'=>q σ w' R' F'
  | ok d S1 =>
   rw [hf] at q;intro v w' R' F' h'
   cases d with
   | tup k =>
    dsimp only at q
    cases hz:small (l.length+k.length) with
    | false=>rw [hz,if_neg (by decide)] at q;exact q.elim
    | true =>
     rw [hz,if_pos rfl] at q;obtain ⟨a',xs',e1',h1',h2',t'⟩:=R'.list hl;rw [e1] at e1';cases e1';obtain ⟨b,zs,rfl,eb,_,rb⟩:=(h'.top R').tupI;refine ⟨a,b,xs',zs,rfl,rfl,h2',eb,by rw [t'.length,rb.length];exact zav hz,?_⟩;exact q σ (w'.mut a (.lst (xs'++zs))) (R'.mut (d0:=.non) e1 h1' (.lst (t'.append rb))) (F'.trans (zbe (by rw [h1'];exact yat _)))
   | _=>exact q.elim
 ·exact q.elim
end
def zdC(g:Str->Str->Option Bool):Fs :=
 zar (zbL 1 true (zc6 [eUn (zhQ g "NoFill") (zau 0),eUn (zhQ g "NoName") (zau 0),eUn (zhQ g "NoPlace") (zau 0),eUn (zhQ g "NoText") (zau 0)]))
 (zar (zbL 1 false (zal zda (zau 1) (zc6 [eUn (zhQ g "NoTile") (zau 0),eUn (zhQ g "Nothing") (zau 0),eUn (zhQ g "Unlike") (zau 0)])))
 (zar (sIf (eOr (zal neD (eMt zdG 1 (zae (.bl true))) (zae (.int 1))) (eUn zfV (eUn (zhQ g "ValueError") (zau 0)))) (zar (zbJ (zae (.str "wrong"))) sNx) sNx)
 (zar (zbJ (zal ixD (zc6 [zae (.str "no fill"),zae (.str "no name"),zae (.str "no place"),zae (.str "no text"),zae (.str "no tile"),zae (.str "nothing"),zae (.str "unlike")]) (eMt zbi 1 (zae (.bl true))))) sNx)))
def zq9(g:Str->Str->Option Bool)(c:Str)(S:Sto):Out D:=match zdC g [some (false,.exc c),none] S with | .rt d S'=>.ok d S' | _=>.bad
noncomputable def zhY(ρ:Env):List Nat->Option (List D)
 | []=>some []
 | i::is=>match ρ[i]? with | some (some (false,d))=>(zhY ρ is).map (d::·) | _=>none
def zbS(und:Str->Str->Bool)(isx:Str->Str->Option Bool)(caps:List Nat)(fb:Fe):Fe:=fun ρ S=>match zhY ρ caps with
 | none=>.bad
 | some ds=>match fb (ds.map fun d=>some (false,d)) S with
  | .ok d S'=>.ok d S'
  | .exc c S'=>if und c "FloorError" then zq9 isx c S' else .bad
  | .bad=>.bad
structure CapsOk(X:Cx)(N:List Str)(caps:List Nat):Prop where
 len:caps.length=N.length
 at':∀(j:Nat) (x:Str) (i:Nat),N[j]?=some x->caps[j]?=some i->X.N[i]?=some x/\X.env.scope.names.lookup x=some .cell/\X.fn x=true
noncomputable def zrs(cl:Cf)(und:Str->Str->Bool)(isx:Str->Str->Option Bool)(P:Program)(wo:PySem.World)(K:PySem.W.Frag)(mg:Z6)(base:Heap)(k:Nat)(cod:Option (Addr×Str))(e:Expr)(N:List Str)(fb:Fe):Prop :=
 ∀(X:Cx) (E:St->XK) (caps:List Nat) (p pos:Pos),X.prog=P->X.w=wo->X.K=K->X.mg=mg->X.base=base->Room k X.A->X.calm=true->Gl X "_law_told" -> (∀c,cod=some c->X.env.code=.ref c.1/\X.env.qual=c.2)->CapsOk X N caps →
  PE X (.Call (.Name "_law_told" p) [e] [] pos) (tE cl E (zbS und isx caps fb))
theorem zhi{cl:Cf}{B:Base}{σ:St}{w:Wd}{ρ:Env}{S:Sto}(R:Rel cl B σ w ρ S):∀{caps:List Nat} {ds:List D},zhY ρ caps=some ds->∃vs,vs.length=caps.length/\(∀(j i:Nat) (v:V),caps[j]?=some i->vs[j]?=some v->σ[i]?=some (some v))/\Shds cl w vs ds
 | [],ds,h=>by cases h;exact ⟨[],rfl,fun j i v h=>by simp at h,.nil⟩
 | i::is,ds,h=>by
  unfold zhY at h;split at h
  ·rename_i d hd
   cases h1:zhY ρ is with
   | none=>rw [h1] at h;cases h
   | some ds' =>
    rw [h1] at h;cases h;obtain ⟨vs,l,e,sh⟩:=zhi R h1;obtain ⟨v,e1,x⟩:=R.slots i false d hd;refine ⟨v::vs,by rw [yam,yam,l],fun j i' v' h1 h2=>?_,.cons x sh⟩
    cases j with
    | zero=>cases h1;cases h2;exact e1
    | succ j=>exact e j i' v' h1 h2
  ·cases h
def Rel.tabUp{cl:Cf}{B:Base}{σ:St}{w:Wd}{ρ:Env}{S:Sto}{P:Addr}{ps ps':Array Value}(R:Rel cl B σ w ρ S)(h1:w.H P=some (.tbl ps))(h2:w.ow P=some .tab)(h3:∀q,cl.tabs P=some q->zkb w q ps') :
  Rel cl B σ (w.mut P (.tbl ps')) ρ S/\Fut w (w.mut P (.tbl ps')):=by
 have ff:=zbe (w:=w) (p:=P) (o:=.tbl ps') (by rw [h2];exact yat _)
 have kp:∀a u,w.H a=some u->w.ow a≠some .tab->(w.mut P (.tbl ps')).H a=some u/\(w.mut P (.tbl ps')).ow a=w.ow a:=fun a u ha hn=>⟨by
  show upd w.H P _ a=_
  rw [zad (fun z=>hn (by rw [z];exact h2))];exact ha,rfl⟩
 have hB:B.Fr P=none:=(R.wd.own P _ h2).elim (fun z=>by cases z) fun z=>z
 refine ⟨⟨⟨fun a u h=>?_,R.wd.own,R.wd.len,fun n ob h=>?_,fun P' q h=>?_⟩,R.len,fun i o d h=>?_⟩,ff⟩
 ·refine ⟨?_,(R.wd.fr a u h).2⟩;show upd w.H P _ a=_;rw [zad (fun z=>by rw [z,hB] at h;cases h)];exact (R.wd.fr a u h).1
 ·obtain ⟨a,e,x⟩:=R.wd.obj n ob h;exact ⟨a,e,x.keep ff fun b u hb hn=>kp b u hb fun z=>by rwa [z] at hn⟩
 ·by_cases hP:P'=P
  ·subst hP;exact ⟨ps',zaj,h2,(h3 q h).up ff⟩
  ·obtain ⟨qs,g1,g2,g3⟩:=R.wd.tab P' q h;refine ⟨qs,?_,g2,g3.up ff⟩;show upd w.H P _ P'=_;rw [zad hP];exact g1
 ·obtain ⟨v,e1,x⟩:=R.slots i o d h;refine ⟨v,e1,x.keep ff fun a u ha hr=>?_⟩;have:=kp a u ha (by rw [hr];simp);exact ⟨this.1,this.2.trans hr⟩
structure FnI where
 ar:Nat
 own:Bool
 run:List D->Sto->Out D
structure ObE where
 cur:Str
 fk:Str->Str->Bool
 df:Str->Bool
 mt:Str->Option (Str×FnI)
 mks:Str->Option (List D×FnI)
structure Genv where
 con:Str->Option D
 fn:Str->Option FnI
 blt:Str->Bool
 exc:Str->Bool
 und:Str->Str->Bool
 isx:Str->Str->Option Bool
 ob:ObE
 ds:Str->Bool
 lam:Expr->Option (List Str×Fe)
 cod:Option (Addr×Str)
abbrev bmV:List Value:=[.type "ValueError",.type "Exception",.type "BaseException",.type "object"]
structure GOk(cl:Cf)(G:Genv)(P:Program)(wo:PySem.World)(K:PySem.W.Frag)(mg:Z6)(base:Heap)(k:Nat):Prop where
 con:∀x d,G.con x=some d->∃v u,mg x=some u/\zaI v u/\∀w,Shd cl w v d
 fn:∀x fi,G.fn x=some fi->∃f fd ps,mg x=some (.ref f)/\PySem.W.keepIn K (.ref f)=true/\zb5 K fd ps []/\FnOk P wo K mg base (CXE P wo) k f fd ps (zfU cl fi.ar fi.own fi.run)
 blt:∀x,G.blt x=true->mg x=none
 exc:∀c,G.exc c=true->mg c=some (.ref (cl c))/\PySem.W.excIn K (cl c) bmV "ValueError.__new__" = true
 und:∀c C,G.und c C=true->L2.zlQ K (cl c) (cl C)
 isx:∀c C b,G.isx c C=some b->PySem.W.ExcCls K (cl c)/\PySem.W.kitOne K (.ref (cl c)) (clsV cl C)=some b
 fk:∀c f,G.ob.fk c f=true->zke cl c f
 mt:∀m c fi,G.ob.mt m=some (c,fi)->∃f fd ps,Cls K (cl c)/\Meth K (cl c) m f/\zb5 K fd ps []/\FnOk P wo K mg base (CXE P wo) k f fd ps (zfU cl fi.ar fi.own fi.run)
 mks:∀c dds fi,G.ob.mks c=some (dds,fi)->∃f fd ps dvs ds k',k'+1<=k/\mg c=some (.ref (cl c))/\Mk K (cl c) f/\zb5 K fd ps []/\zb5 K fd ps ds/\Vals dvs ds/\(∀w,Shds cl w dvs dds)/\FnOk P wo K mg base (CXE P wo) k' f fd ps (zfU cl fi.ar false fi.run)
 tl:∀e N fb,G.lam e=some (N,fb)->zrs cl G.und G.isx P wo K mg base k G.cod e N fb
noncomputable abbrev Names:=List (Str×NameKind)
structure Gx(cl:Cf)(G:Genv)(k:Nat)(X:Cx)(nm:Names)(N:List Str)(E:St->XK):Prop where
 gok:GOk cl G X.prog X.w X.K X.mg X.base k
 room:Room k X.A
 calm:X.calm=true
 pass:zbW (CXE X.prog X.w) X E
 eN:X.N=N
 kk:X.K=cl.K
 pp:X.prog=cl.P
 ww:X.w=cl.wo
 nd:N.Nodup
 vis:∀x kd,nm.lookup x=some kd->∃kd',X.env.scope.names.lookup x=some kd'/\(kd'=kd\/(kd=.free/\kd'=.cell))
 fnx:∀x,nm.lookup x=some .local->X.env.scope.names.lookup x=some .local
 cod:∀c,G.cod=some c->X.env.code=.ref c.1/\X.env.qual=c.2
 fnc:∀x,nm.lookup x=some .cell->X.fn x=true
noncomputable def idx:List Str->Str->Option Nat
 | [],_=>none
 | y::l,x=>if y=x then some 0 else (idx l x).map (·+1)
theorem zcP:∀{N:List Str} {x:Str} {i:Nat},idx N x=some i->N[i]?=some x
 | y::l,x,i,h=>by
  unfold idx at h;split at h
  ·rename_i e;cases h;rw [e];rfl
  ·cases hr:idx l x with
   | none=>rw [hr] at h;cases h
   | some j=>rw [hr] at h;cases h;simpa using zcP hr
noncomputable def zfe(x:Str):Bool:=!(x == ("__debug__":Str))&&!(x == ("__classdict__":Str))&&!decide (x = "__name__")
def zdm(h:zfe x=true):(x == ("__debug__":Str))=false/\(x == ("__classdict__":Str))=false/\x ≠ "__name__":=by
 unfold zfe at h;simp only [yab,ybE,ycx] at h;exact ⟨h.1.1,h.1.2,h.2⟩
noncomputable def ztc:Option NameKind->Bool | some .local=>true | some .cell=>true | some .free=>true | _=>false
def za3(nm:Names)(N:List Str)(x:Str):Option Nat:=if ztc (nm.lookup x)&&zfe x then idx N x else none
noncomputable def zaD(nm:Names)(x:Str):Bool:=decide (nm.lookup x=some .globalImplicit)&&zfe x
section
variable{cl:Cf}{G:Genv}{k:Nat}{X:Cx}{nm:Names}{N:List Str}{E:St->XK}
def Gx.slot(g:Gx cl G k X nm N E)(h:za3 nm N x=some i):X.N[i]?=some x/\Vis X.env.scope x/\(x == ("__debug__":Str))=false/\(x == ("__classdict__":Str))=false:=by
 unfold za3 at h;split at h
 ·rename_i hv;rw [yab] at hv;obtain ⟨h1,h2,_⟩:=zdm hv.2;refine ⟨by rw [g.eN];exact zcP h,?_,h1,h2⟩
  cases hk:nm.lookup x with
  | none=>rw [hk] at hv;exact absurd hv.1 (by decide)
  | some kd =>
   obtain ⟨kd',e,z⟩:=g.vis x kd hk;rw [hk] at hv;unfold Vis;rw [e]
   rcases z with rfl | ⟨_,rfl⟩
   ·cases kd'<;>first | exact .inl rfl | exact .inr (.inl rfl) | exact .inr (.inr rfl) | exact absurd hv.1 (by decide)
   ·exact .inr (.inl rfl)
 ·cases h
def Gx.glob(g:Gx cl G k X nm N E)(h:zaD nm x=true):Gl X x/\(x == ("__debug__":Str))=false/\x ≠ "__name__":=by
 unfold zaD at h;rw [yab] at h;obtain ⟨h1,_,h3⟩:=zdm h.2;obtain ⟨kd',e,z⟩:=g.vis x _ (yal h.1)
 rcases z with rfl | ⟨z,_⟩
 ·exact ⟨e,h1,h3⟩
 ·cases z
end
noncomputable abbrev Rec:=Names->List Str->Expr->Option (Bool×Fe)
noncomputable def okE:Expr->Bool | .Starred _ _=>false | .Set _ _ _=>false | _=>true
def zac(h:okE e=true):zaB e=true:=by cases e<;>first | rfl | cases h
def zdn(h:okE e=true):behindInMarks op e=false:=by cases e<;>first | rfl | cases h
def zev(h:okE e=true)(v:Value):foldedSetIterable e env v=pure v:=by cases e<;>first | rfl | cases h
noncomputable def zaS:Expr->Bool | .IfExp _ _ _ _=>false | _=>true
noncomputable def zaQ(cl:Cf)(G:Genv)(k:Nat)(rc:Rec):Prop:=∀(X:Cx) (nm:Names) (N:List Str) (E:St->XK),Gx cl G k X nm N E->∀(e:Expr) (o:Bool) (f:Fe),rc nm N e=some (o,f) →
 (o=true->PE X e (tN cl E f))/\PE X e (tE cl E f)/\(zaS e=true->PT X e (tTr cl E f))/\okE e=true
noncomputable def shE(rc:Rec)(nm:Names)(N:List Str)(e:Expr):Option Fe:=(rc nm N e).map (·.2)
def opE(rc:Rec)(nm:Names)(N:List Str)(e:Expr):Option Fe:=match e with
 | .Name x _=>(match za3 nm N x with | some i=>some (zau i) | none=>shE rc nm N e)
 | _=>shE rc nm N e
def shL(rc:Rec)(nm:Names)(N:List Str):List Expr->Option (List Fe)
 | []=>some []
 | e::es=>(shE rc nm N e).bind fun f=>(shL rc nm N es).bind fun fs=>some (f::fs)
def opL(rc:Rec)(nm:Names)(N:List Str):List Expr->Option (List Fe)
 | []=>some []
 | e::es=>(opE rc nm N e).bind fun f=>(opL rc nm N es).bind fun fs=>some (f::fs)
section
variable{cl:Cf}{G:Genv}{k:Nat}{rc:Rec}{X:Cx}{nm:Names}{N:List Str}{E:St->XK}
def zao(hs:zaQ cl G k rc)(g:Gx cl G k X nm N E)(h:shE rc nm N e=some f):PE X e (tE cl E f)/\(zaS e=true->PT X e (tTr cl E f))/\okE e=true:=by
 unfold shE at h
 cases hr:rc nm N e with
 | none=>rw [hr] at h;cases h
 | some p =>
  obtain ⟨o,f'⟩:=p;rw [hr] at h;cases h;obtain ⟨_,h2,h3,h4⟩:=hs X nm N E g e o _ hr;exact ⟨h2,h3,h4⟩
def zaY(hs:zaQ cl G k rc)(g:Gx cl G k X nm N E)(h:opE rc nm N e=some f):PE X e (tH cl E f)/\okE e=true:=by
 unfold opE at h;split at h
 ·rename_i x pos;split at h
  ·rename_i i hi;cases h;obtain ⟨h1,h2,h3,h4⟩:=g.slot hi;exact ⟨ziC h1 h2 h3 h4,rfl⟩
  ·obtain ⟨h1,_,h3⟩:=zao hs g h;exact ⟨zbv h1,h3⟩
 ·obtain ⟨h1,_,h3⟩:=zao hs g h;exact ⟨zbv h1,h3⟩
theorem zdf(hs:zaQ cl G k rc)(g:Gx cl G k X nm N E):∀{es:List Expr} {fs:List Fe},shL rc nm N es=some fs->PA X es (tAs cl E fs)/\es.all zaB=true/\fs.length=es.length
 | [],fs,h=>by cases h;exact ⟨zbh,rfl,rfl⟩
 | e::es,fs,h=>by
  unfold shL at h
  cases h1:shE rc nm N e with
  | none=>rw [h1] at h;cases h
  | some f =>
   rw [h1] at h
   cases h2:shL rc nm N es with
   | none=>rw [h2] at h;cases h
   | some fs' =>
    rw [h2] at h;cases h;obtain ⟨a1,_,a3⟩:=zao hs g h1;obtain ⟨b1,b2,b3⟩:=zdf hs g h2;exact ⟨zak a1 b1 (zap (zac a3)),by rw [ybA,zac a3,b2];rfl,by rw [yam,yam,b3]⟩
theorem zmh(hs:zaQ cl G k rc)(g:Gx cl G k X nm N E):∀{es:List Expr} {fs:List Fe},opL rc nm N es=some fs->PA X es (tHs cl E fs)/\es.all zaB=true/\fs.length=es.length
 | [],fs,h=>by cases h;exact ⟨ziy,rfl,rfl⟩
 | e::es,fs,h=>by
  unfold opL at h
  cases h1:opE rc nm N e with
  | none=>rw [h1] at h;cases h
  | some f =>
   rw [h1] at h
   cases h2:opL rc nm N es with
   | none=>rw [h2] at h;cases h
   | some fs' =>
    rw [h2] at h;cases h;obtain ⟨a1,a3⟩:=zaY hs g h1;obtain ⟨b1,b2,b3⟩:=zmh hs g h2;exact ⟨zf4 a1 b1 (zap (zac a3)),by rw [ybA,zac a3,b2];rfl,by rw [yam,yam,b3]⟩
end
noncomputable def zvF:Const->Option D
 | .int i=>some (.int i)
 | .bool b=>some (.bl b)
 | .none=>some .non
 | .str x=>some (.str x)
 | _=>none
def zty:Operator->Option (D->D->Option D)
 | .Add=>some zda | .Sub=>some zrD | .Mult=>some zi8 | .Mod=>some zfh | .FloorDiv=>some zq5 | .Pow=>some zsI | _=>none
noncomputable def zju:Expr->Bool | .Constant .none _ _=>true | _=>false
noncomputable def zjv:Expr->Bool | .Constant (.bool _) _ _=>true | _=>false
def ltD:=zoN fun i j=>decide (i<j)
def leD:=zoN fun i j=>decide (i<=j)
def gtD:=zoN fun i j=>decide (j<i)
def geD:=zoN fun i j=>decide (j<=i)
def zq8:CmpOp->Expr->Option (D->D->Option D)
 | .Eq,_=>some eqD | .NotEq,_=>some neD | .Lt,_=>some ltD | .LtE,_=>some leD | .Gt,_=>some gtD | .GtE,_=>some geD | .In,_=>some inD | .NotIn,_=>some zsV
 | .Is,b=>if zju b then some zqK else if zjv b then some ztb else none
 | .IsNot,b=>if zju b then some zk2 else if zjv b then some zk3 else none
def zh2(rc:Rec)(nm:Names)(N:List Str)(op:BoolOp):List Expr->Option Fe
 | []=>none
 | [a]=>if zaS a then shE rc nm N a else none
 | a::b::r=>if zaS a then (shE rc nm N a).bind fun f=>(zh2 rc nm N op (b::r)).bind fun h=>some (match op with | .And=>zhc f h | .Or=>eOr f h) else none
structure BI where
 g:List D->Option D
 nw:Bool
def zj4(x:Str):Option BI :=
 if x = "len" then some ⟨zfW,false⟩
 else if x = "all" then some ⟨zr2,false⟩
 else if x = "sum" then some ⟨zsp,false⟩
 else if x = "tuple" then some ⟨zb6,false⟩
 else if x = "list" then some ⟨zjk,true⟩
 else if x = "max" then some ⟨zrM,false⟩
 else if x = "min" then some ⟨zk9,false⟩
 else if x = "abs" then some ⟨ztK,false⟩
 else if x = "int" then some ⟨zte,false⟩
 else none
noncomputable def zoV(x:Str):Option String:=if x = "int" then some "int" else if x = "bool" then some "bool" else if x = "tuple" then some "tuple" else if x = "str" then some "str" else if x = "list" then some "list" else none
noncomputable def ztv(G:Genv)(t:Str):Bool:=if t = "ValueError" then G.blt t else G.exc t
def zot(G:Genv)(rc:Rec)(nm:Names)(N:List Str)(x:Str)(args:List Expr):Option (Bool×Fe) :=
 if zaD nm x then
  match G.fn x with
  | some fi=>if args.length=fi.ar then (shL rc nm N args).bind fun fs=>some (fi.own,eFn fi.run fs) else none
  | none=>if G.blt x then
    (if x = "isinstance" then (match args with
     | [a,.Name t _]=>if zaD nm t&&G.blt t&&(zoV t).isSome then (zoV t).bind fun T=>(opE rc nm N a).bind fun f=>some (false,eUn (zfq T) f)
      else if zaD nm t&&ztv G t then (opE rc nm N a).bind fun f=>some (false,eUn (zhQ G.isx t) f) else none
     | _=>none)
    else match args with
     | []=>none
     | _::_=>(zj4 x).bind fun bi=>(opL rc nm N args).bind fun fs=>some (bi.nw,zaZ bi.g fs)) else none
 else none
noncomputable def zmr:Expr->Bool | .Tuple _ _ _=>true | _=>false
def zhP(G:Genv)(rc:Rec)(nm:Names)(N:List Str)(tg e:Expr):Option Fi:=match e with
 | .Call (.Name x p) args [] pos=>if x = "range" then (if zaD nm x&&G.blt x then (match args with
   | [a]=>(shE rc nm N a).bind fun f=>some (zgm f)
   | [a,b]=>(shE rc nm N a).bind fun f=>(shE rc nm N b).bind fun h=>some (zjL f h)
   | [a,b,c]=>(shE rc nm N a).bind fun f=>(shE rc nm N b).bind fun h=>(shE rc nm N c).bind fun g=>some (zjK f h g)
   | _=>none) else none)
  else if x = "enumerate" then (if zaD nm x&&G.blt x&&zmr tg then (match args with
   | [a]=>(shE rc nm N a).bind fun f=>some (zjO f)
   | _=>none) else none)
  else if x = "zip" then (if zaD nm x&&G.blt x&&zmr tg then (match args with
   | [a,b]=>(shE rc nm N a).bind fun f=>(shE rc nm N b).bind fun h=>some (zq0 f h)
   | _=>none) else none)
  else if x = "reversed" then (if zaD nm x&&G.blt x then (match args with
   | [a]=>(shE rc nm N a).bind fun f=>some (ztt f)
   | _=>none) else none)
  else (shE rc nm N e).map za7
 | _=>(shE rc nm N e).map za7
noncomputable def zst:Expr->Option (Str×Expr×Pos×Pos) | .Call (.Name y p) [a] [] q=>some (y,a,p,q) | _=>none
noncomputable def spA:List Expr->Option (Str×Expr×Pos×Pos) | [e]=>zst e | _=>none
def zpi(h:spA args=some c):args=[.Call (.Name c.1 c.2.2.1) [c.2.1] [] c.2.2.2]:=by
 match args,h with
 | [e],h =>
  have h':zst e=some c:=h;unfold zst at h';split at h'
  ·cases h';rfl
  ·cases h'
def spG(G:Genv)(rc:Rec)(nm:Names)(N:List Str)(x:Str)(args:List Expr):Option (Bool×Fe):=(spA args).bind fun c =>
 if decide (x = "tuple")&&decide (c.1 = "reversed")&&zaD nm "tuple" && G.blt "tuple" && zaD nm "reversed" && G.blt "reversed" then (shE rc nm N c.2.1).map fun f=>(false,eUn zf0 f)
 else if decide (x = "list")&&decide (c.1 = "range")&&zaD nm "list" && G.blt "list" && zaD nm "range" && G.blt "range" then (shE rc nm N c.2.1).map fun f=>(true,eUn lrD f)
 else if decide (x = "sorted")&&decide (c.1 = "set")&&zaD nm "sorted" && G.blt "sorted" && zaD nm "set" && G.blt "set" then (shE rc nm N c.2.1).map fun f=>(true,eUn zir f)
 else if decide (x = "len")&&decide (c.1 = "set")&&zaD nm "len" && G.blt "len" && zaD nm "set" && G.blt "set" then (shE rc nm N c.2.1).map fun f=>(false,eUn zcO f)
 else none
section
variable{cl:Cf}{G:Genv}{k:Nat}{rc:Rec}{X:Cx}{nm:Names}{N:List Str}{E:St->XK}
theorem Gx.units(g:Gx cl G k X nm N E):X.A.units+64<cLine:=g.room.units
def zmD(h:zty op=some gg):OpD X cl (binaryOp op) gg:=by
 cases op<;>simp [zty] at h<;>subst h
 ·exact zmj
 ·exact zqd
 ·exact zqh
 ·exact zqi
 ·exact zqe
 ·exact zql
def zec(g:Gx cl G k X nm N E)(h:zq8 op b=some gg):OpD X cl (compareOp op) gg:=by
 cases op<;>simp only [zq8] at h
 ·cases h;exact zsT g.kk g.units
 ·cases h;exact zqg g.kk g.units
 ·cases h;exact zew zsO
 ·cases h;exact zew zsP
 ·cases h;exact zew zsQ
 ·cases h;exact zew zsR
 ·split at h
  ·cases h;exact zqj
  ·split at h
   ·cases h;exact zqk
   ·cases h
 ·split at h
  ·cases h;exact znQ
  ·split at h
   ·cases h;exact znR
   ·cases h
 ·cases h;exact zsS g.kk g.units
 ·cases h;exact zqf g.kk g.units
theorem zj2(hs:zaQ cl G k rc)(g:Gx cl G k X nm N E):∀{es:List Expr} {f:Fe},zh2 rc nm N op es=some f->PE X (.BoolOp op es pos) (tE cl E f)/\PW X (.BoolOp op es pos) (tTr cl E f)
 | [],f,h=>by cases h
 | [a],f,h=>by
  unfold zh2 at h;split at h
  ·rename_i ht;obtain ⟨h1,h2,_⟩:=zao hs g h;refine ⟨zpU h1,?_⟩
   cases op with
   | And=>exact zny (h2 ht)
   | Or=>exact zl9 (h2 ht)
  ·cases h
 | a::b::r,f,h=>by
  unfold zh2 at h;split at h
  ·rename_i ht
   cases h1:shE rc nm N a with
   | none=>rw [h1] at h;cases h
   | some fa =>
    rw [h1] at h
    cases h2:zh2 rc nm N op (b::r) with
    | none=>rw [h2] at h;cases h
    | some fb =>
     rw [h2] at h;obtain ⟨a1,a2,_⟩:=zao hs g h1;obtain ⟨b1,b2⟩:=zj2 hs g (pos:=pos) h2
     cases op with
     | And=>cases h;exact ⟨zpA a1 b1,zo9 (a2 ht) b2⟩
     | Or=>cases h;exact ⟨zsv a1 b1,zo8 (a2 ht) b2⟩
  ·cases h
theorem zlM:bootBuiltins "all" = some (.builtin "all"):=by decide +kernel
theorem zeg:bootBuiltins "tuple" = some (.type "tuple"):=by decide +kernel
def zfI:bootBuiltins "list" = some (.type "list"):=by decide +kernel
theorem zhl:bootBuiltins "int" = some (.type "int"):=by decide +kernel
theorem zj1:bootBuiltins "bool" = some (.type "bool"):=by decide +kernel
theorem zlL:bootBuiltins "max" = some (.builtin "max"):=by decide +kernel
theorem zlK:bootBuiltins "min" = some (.builtin "min"):=by decide +kernel
theorem zlN:bootBuiltins "abs" = some (.builtin "abs"):=by decide +kernel
theorem zlJ:bootBuiltins "str" = some (.type "str"):=by decide +kernel
def zrk(g:Gx cl G k X nm N E)(h:zj4 x=some bi)(hg:zaD nm x=true)(hb:G.blt x=true)(ha:PA X (e::es) (tHs cl E fs))(hp:(e::es).all zaB=true) :
  (bi.nw=true->PE X (.Call (.Name x p) (e::es) [] pos) (tN cl E (zaZ bi.g fs)))/\PE X (.Call (.Name x p) (e::es) [] pos) (tE cl E (zaZ bi.g fs)):=by
 obtain ⟨g1,g2,g3⟩:=g.glob hg;have m:=g.gok.blt x hb;rw [ybA,yab] at hp;have st:=zap (es:=es) (env:=X.env) hp.1;have pl:=zaN (pos:=pos) (env:=X.env) hp.2
 have D1:∀{id:String} {gg:List D->Option D},zdN X cl (.builtin id) gg->bootBuiltins x=some (.builtin id)->PE X (.Call (.Name x p) (e::es) [] pos) (tE cl E (zaZ gg fs)):=fun hc hv =>
  PE.imp (zcq hc g1 m hv ha g3 g2 st pl) fun _ _ _ q=>zo5 (fun _ _ _ z=>z) q
 have D2:∀{T:String} {gg:List D->Option D},zdN X cl (.type T) gg->bootBuiltins x=some (.type T)->PE X (.Call (.Name x p) (e::es) [] pos) (tE cl E (zaZ gg fs)):=fun hc hv =>
  PE.imp (zbP hc g1 m hv ha g3 g2 st pl) fun _ _ _ q=>zo5 (fun _ _ _ z=>z) q
 have N2:∀{T:String} {gg:List D->Option D},zrw X cl (.type T) gg->bootBuiltins x=some (.type T)->PE X (.Call (.Name x p) (e::es) [] pos) (tN cl E (zaZ gg fs)):=fun hc hv =>
  PE.imp (zbP hc g1 m hv ha g3 g2 st pl) fun _ _ _ q=>zsn (fun _ _ _ z=>z) q
 unfold zj4 at h;split at h
 ·rename_i e';cases h;exact ⟨(fun z=>absurd z (by decide)),D1 (zrd g.kk) (by rw [e'];exact PySem.boot_len)⟩
 split at h
 ·rename_i e';cases h;exact ⟨(fun z=>absurd z (by decide)),D1 (zrf g.calm) (by rw [e'];exact zlM)⟩
 split at h
 ·rename_i e';cases h;exact ⟨(fun z=>absurd z (by decide)),D1 (zra g.calm) (by rw [e'];exact PyProof.Rows.boot_sum)⟩
 split at h
 ·rename_i e';cases h;exact ⟨(fun z=>absurd z (by decide)),D2 zlC (by rw [e'];exact zeg)⟩
 split at h
 ·rename_i e';cases h;have n:=N2 zop (by rw [e'];exact zfI);exact ⟨fun _=>n,zbc n⟩
 split at h
 ·rename_i e';cases h;exact ⟨(fun z=>absurd z (by decide)),D1 (zrc g.calm) (by rw [e'];exact zlL)⟩
 split at h
 ·rename_i e';cases h;exact ⟨(fun z=>absurd z (by decide)),D1 (zoq g.calm) (by rw [e'];exact zlK)⟩
 split at h
 ·rename_i e';cases h;exact ⟨(fun z=>absurd z (by decide)),D1 zrg (by rw [e'];exact zlN)⟩
 split at h
 ·rename_i e';cases h;exact ⟨(fun z=>absurd z (by decide)),D2 zre (by rw [e'];exact zhl)⟩
 ·cases h
def zsd(h:zoV t=some T):bootBuiltins t=some (.type T):=by
 unfold zoV at h;split at h
 ·rename_i e;cases h;rw [e];exact zhl
 split at h
 ·rename_i e;cases h;rw [e];exact zj1
 split at h
 ·rename_i e;cases h;rw [e];exact zeg
 split at h
 ·rename_i e;cases h;rw [e];exact zlJ
 split at h
 ·rename_i e;cases h;rw [e];exact zfI
 ·cases h
def zos(hs:zaQ cl G k rc)(g:Gx cl G k X nm N E)(h:zot G rc nm N x args=some (o,f)) :
  (o=true->PE X (.Call (.Name x p) args [] pos) (tN cl E f))/\PE X (.Call (.Name x p) args [] pos) (tE cl E f):=by
 unfold zot at h;split at h
 ·rename_i hg;obtain ⟨g1,g2,g3⟩:=g.glob hg;split at h
  ·rename_i fi hfi;split at h
   ·rename_i hl;obtain ⟨fa,fd,ps,m1,m2,m3,m4⟩:=g.gok.fn x fi hfi
    cases h1:shL rc nm N args with
    | none=>rw [h1] at h;cases h
    | some fs =>
     rw [h1] at h;cases h;obtain ⟨a1,a2,a3⟩:=zdf hs g h1;have hlen:fs.length=fi.ar:=a3.trans hl
     have main:PE X (.Call (.Name x p) args [] pos) (zeY (zfU cl fi.ar fi.own fi.run) [] E (tAs cl E fs)):=by
      cases args with
      | nil =>
       cases h1;refine PE.imp (zi2 m4 g.room g1 m1 m2 m3 .nil g.pass g2) ?_;rintro σ H Q ⟨B,w,ρ,S,rfl,R,q⟩;exact q [] w R (Fut.refl _) .nil
      | cons e es =>
       rw [ybA,yab] at a2;exact zkV m4 g.room g1 m1 m2 m3 .nil g.pass a1 g2 (zap a2.1) (zaN a2.2)
     cases ho:fi.own with
     | false =>
      rw [ho] at main;exact ⟨(fun z=>by cases z),PE.imp main fun _ _ _ q=>zrj q hlen⟩
     | true =>
      rw [ho] at main;have n:PE X (.Call (.Name x p) args [] pos) (tN cl E (eFn fi.run fs)):=PE.imp main fun _ _ _ q=>zri q hlen
      exact ⟨fun _=>n,zbc n⟩
   ·cases h
  ·split at h
   ·rename_i hb;split at h
    ·rename_i hx;subst hx;split at h
     ·rename_i a t p2;split at h
      ·rename_i ht;rw [yab,yab] at ht;replace ht:=ht.1
       cases hT:zoV t with
       | none=>rw [hT] at h;cases h
       | some T =>
        rw [hT] at h
        cases h1:opE rc nm N a with
        | none=>rw [h1] at h;cases h
        | some fa =>
         rw [h1] at h;cases h;obtain ⟨t1,t2,t3⟩:=g.glob ht.1;obtain ⟨a1,a2⟩:=zaY hs g h1;exact ⟨(fun z=>by cases z),znm g1 (g.gok.blt _ hb) t1 (g.gok.blt _ ht.2) (zsd hT) t3 t2 (zac a2) a1⟩
      ·split at h
       ·rename_i ht;rw [yab] at ht
        cases h1:opE rc nm N a with
        | none=>rw [h1] at h;cases h
        | some fa =>
         rw [h1] at h;cases h;obtain ⟨t1,t2,t3⟩:=g.glob ht.1;obtain ⟨a1,a2⟩:=zaY hs g h1;refine ⟨(fun z=>by cases z),?_⟩
         by_cases hv:t = "ValueError"
         ·subst hv
          have ht2:G.blt "ValueError" = true:=by simpa [ztv] using ht.2
          exact zgO (vC:=.ty "ValueError") g1 (g.gok.blt _ hb) (zgc t1 (g.gok.blt _ ht2) zef rfl t3 t2) (fun u r=>by rw [show u=Value.type "ValueError" from r];rfl) (fun c b hc=>g.gok.isx c _ b hc) (zac a2) a1
         ·have ht2:G.exc t=true:=by simpa [ztv,hv] using ht.2
          exact zgO (vC:=.ref (cl t)) g1 (g.gok.blt _ hb) (zgb t1 (g.gok.exc t ht2).1 rfl t2) (fun u r=>by rw [show u=Value.ref (cl t) from r];unfold clsV;rw [if_neg hv]) (fun c b hc=>g.gok.isx c _ b hc) (zac a2) a1
       ·cases h
     ·cases h
    ·split at h
     ·cases h
     ·rename_i e es
      cases h2:zj4 x with
      | none=>rw [h2] at h;cases h
      | some bi =>
       rw [h2] at h
       cases h1:opL rc nm N (e::es) with
       | none=>rw [h1] at h;cases h
       | some fs =>
        rw [h1] at h;cases h;obtain ⟨a1,a2,_⟩:=zmh hs g h1;exact zrk g h2 hg hb a1 a2
   ·cases h
 ·cases h
def zjs(hs:zaQ cl G k rc)(g:Gx cl G k X nm N E)(h:zhP G rc nm N tg e=some fi):PI X tg e (tI cl E fi)/\okE e=true:=by
 have gen:∀{e:Expr},(shE rc nm N e).map za7=some fi->PI X tg e (tI cl E fi)/\okE e=true:=fun {e} h=>by
  cases h1:shE rc nm N e with
  | none=>rw [h1] at h;cases h
  | some f =>
   rw [h1] at h;cases h;obtain ⟨a1,_,a3⟩:=zao hs g h1;exact ⟨zpp g.kk a1,a3⟩
 unfold zhP at h;split at h
 ·rename_i x p args pos;split at h
  ·rename_i hx;subst hx;split at h
   ·rename_i hb;rw [yab] at hb;obtain ⟨g1,_,_⟩:=g.glob hb.1;have m:=g.gok.blt _ hb.2;split at h
    ·rename_i a
     cases h1:shE rc nm N a with
     | none=>rw [h1] at h;cases h
     | some f =>
      rw [h1] at h;cases h;obtain ⟨a1,_,a3⟩:=zao hs g h1;exact ⟨znd g1 m (zak a1 zbh (zap (zac a3))) (zap (zac a3)),rfl⟩
    ·rename_i a b
     cases h1:shE rc nm N a with
     | none=>rw [h1] at h;cases h
     | some f =>
      rw [h1] at h
      cases h2:shE rc nm N b with
      | none=>rw [h2] at h;cases h
      | some f2 =>
       rw [h2] at h;cases h;obtain ⟨a1,_,a3⟩:=zao hs g h1;obtain ⟨b1,_,b3⟩:=zao hs g h2;have s1:=zap (es:=[b]) (env:=X.env) (zac a3);have s2:=zap (es:=[]) (env:=X.env) (zac b3);exact ⟨znc g1 m (zak a1 (zak b1 zbh s2) s1) (by rw [s1,s2];rfl) s2,rfl⟩
    ·rename_i a b c
     cases h1:shE rc nm N a with
     | none=>rw [h1] at h;cases h
     | some f =>
      rw [h1] at h
      cases h2:shE rc nm N b with
      | none=>rw [h2] at h;cases h
      | some f2 =>
       rw [h2] at h
       cases h3:shE rc nm N c with
       | none=>rw [h3] at h;cases h
       | some f3 =>
        rw [h3] at h;cases h;obtain ⟨a1,_,a3⟩:=zao hs g h1;obtain ⟨b1,_,b3⟩:=zao hs g h2;obtain ⟨c1,_,c3⟩:=zao hs g h3;have s1:=zap (es:=[b,c]) (env:=X.env) (zac a3);have s2:=zap (es:=[c]) (env:=X.env) (zac b3);have s3:=zap (es:=[]) (env:=X.env) (zac c3);exact ⟨znb g1 m (zak a1 (zak b1 (zak c1 zbh s3) s2) s1) s1 (zaN (by simp [zac b3,zac c3])),rfl⟩
    ·cases h
   ·cases h
  split at h
  ·rename_i hx;subst hx;split at h
   ·rename_i hb;rw [yab,yab] at hb;obtain ⟨g1,_,_⟩:=g.glob hb.1.1;have m:=g.gok.blt _ hb.1.2;split at h
    ·rename_i a
     cases h1:shE rc nm N a with
     | none=>rw [h1] at h;cases h
     | some f =>
      rw [h1] at h;cases h;obtain ⟨a1,_,a3⟩:=zao hs g h1
      cases tg with
      | Tuple es kk tp=>exact ⟨znf g1 m (zak a1 zbh (zap (zac a3))) (zap (zac a3)),rfl⟩
      | _=>cases hb.2
    ·cases h
   ·cases h
  split at h
  ·rename_i hx;subst hx;split at h
   ·rename_i hb;rw [yab,yab] at hb;obtain ⟨g1,_,_⟩:=g.glob hb.1.1;have m:=g.gok.blt _ hb.1.2;split at h
    ·rename_i a b
     cases h1:shE rc nm N a with
     | none=>rw [h1] at h;cases h
     | some f =>
      rw [h1] at h
      cases h2:shE rc nm N b with
      | none=>rw [h2] at h;cases h
      | some f2 =>
       rw [h2] at h;cases h;obtain ⟨a1,_,a3⟩:=zao hs g h1;obtain ⟨b1,_,b3⟩:=zao hs g h2;have s1:=zap (es:=[b]) (env:=X.env) (zac a3);have s2:=zap (es:=[]) (env:=X.env) (zac b3)
       cases tg with
       | Tuple es kk tp=>exact ⟨zpk g1 m (zak a1 (zak b1 zbh s2) s1) s1 (zaN (by simp [zac b3])),rfl⟩
       | _=>cases hb.2
    ·cases h
   ·cases h
  split at h
  ·rename_i hx;subst hx;split at h
   ·rename_i hb;rw [yab] at hb;obtain ⟨g1,_,_⟩:=g.glob hb.1;have m:=g.gok.blt _ hb.2;split at h
    ·rename_i a
     cases h1:shE rc nm N a with
     | none=>rw [h1] at h;cases h
     | some f =>
      rw [h1] at h;cases h;obtain ⟨a1,_,a3⟩:=zao hs g h1;exact ⟨zpn g.kk g1 m (zak a1 zbh (zap (zac a3))) (zap (zac a3)),rfl⟩
    ·cases h
   ·cases h
  ·exact gen h
 ·exact gen h
def zss(hs:zaQ cl G k rc)(g:Gx cl G k X nm N E)(h:spG G rc nm N x args=some (o,f)):(o=true->PE X (.Call (.Name x p) args [] pos) (tN cl E f))/\PE X (.Call (.Name x p) args [] pos) (tE cl E f):=by
 unfold spG at h
 cases hc:spA args with
 | none=>rw [hc] at h;cases h
 | some c =>
 rw [hc] at h;obtain rfl:=zpi hc;obtain ⟨y,a,p2,pos2⟩:=c;dsimp only [Option.bind] at h ⊢;clear hc;split at h
 ·rename_i hb;simp only [yab,yaB] at hb;obtain ⟨⟨⟨⟨⟨rfl,rfl⟩,b1⟩,b2⟩,b3⟩,b4⟩:=hb;obtain ⟨g1,_,_⟩:=g.glob b1;obtain ⟨g2,_,_⟩:=g.glob b3
  cases h1:shE rc nm N a with
  | none=>rw [h1] at h;cases h
  | some fa =>
   rw [h1] at h;cases h;obtain ⟨a1,_,a3⟩:=zao hs g h1;exact ⟨(fun z=>by cases z),ziA g.calm g1 (g.gok.blt _ b2) g2 (g.gok.blt _ b4) a1 (zap (zac a3))⟩
 split at h
 ·rename_i hb;simp only [yab,yaB] at hb;obtain ⟨⟨⟨⟨⟨rfl,rfl⟩,b1⟩,b2⟩,b3⟩,b4⟩:=hb;obtain ⟨g1,_,_⟩:=g.glob b1;obtain ⟨g2,_,_⟩:=g.glob b3
  cases h1:shE rc nm N a with
  | none=>rw [h1] at h;cases h
  | some fa =>
   rw [h1] at h;cases h;obtain ⟨a1,_,a3⟩:=zao hs g h1;have n:=zsw (p:=p) (p2:=p2) (pos:=pos) (pos2:=pos2) g.calm g1 (g.gok.blt _ b2) g2 (g.gok.blt _ b4) a1 (zap (zac a3));exact ⟨fun _=>n,zbc n⟩
 split at h
 ·rename_i hb;simp only [yab,yaB] at hb;obtain ⟨⟨⟨⟨⟨rfl,rfl⟩,b1⟩,b2⟩,b3⟩,b4⟩:=hb;obtain ⟨g1,_,_⟩:=g.glob b1;obtain ⟨g2,_,_⟩:=g.glob b3
  cases h1:shE rc nm N a with
  | none=>rw [h1] at h;cases h
  | some fa =>
   rw [h1] at h;cases h;obtain ⟨a1,_,a3⟩:=zao hs g h1;have n:=znk (p:=p) (p2:=p2) (pos:=pos) (pos2:=pos2) g.calm g.kk g1 (g.gok.blt _ b2) g2 (g.gok.blt _ b4) a1 (zap (zac a3));exact ⟨fun _=>n,zbc n⟩
 split at h
 ·rename_i hb;simp only [yab,yaB] at hb;obtain ⟨⟨⟨⟨⟨rfl,rfl⟩,b1⟩,b2⟩,b3⟩,b4⟩:=hb;obtain ⟨g1,_,_⟩:=g.glob b1;obtain ⟨g2,_,_⟩:=g.glob b3
  cases h1:shE rc nm N a with
  | none=>rw [h1] at h;cases h
  | some fa =>
   rw [h1] at h;cases h;obtain ⟨a1,_,a3⟩:=zao hs g h1;exact ⟨(fun z=>by cases z),zhE g.calm g1 (g.gok.blt _ b2) g2 (g.gok.blt _ b4) a1 (zap (zac a3))⟩
 ·cases h
noncomputable def zl7:Expr->Bool | .Name _ _=>true | .Call (.Name _ _) (_::_) _ _=>true | .Attribute (.Name _ _) _ _=>true | _=>false
def znV(G:Genv)(rc:Rec)(nm:Names)(N:List Str)(o:Expr)(m:Str)(ap cp:Pos)(args:List Expr)(kws:List Keyword):Option (Bool×Fe) :=
 if kws.isEmpty&&zl7 o&&(ap.endLine == cp.line)&&decide (args.length<30) then (G.ob.mt m).bind fun c=>if args.length+1=c.2.ar then (shE rc nm N o).bind fun fo=>(shL rc nm N args).bind fun fs=>some (c.2.own,zjM c.1 m c.2.run fo fs) else none else none
def mkG(G:Genv)(rc:Rec)(nm:Names)(N:List Str)(x:Str)(args:List Expr):Option (Bool×Fe) :=
 if zaD nm x&&!args.isEmpty then (G.ob.mks x).bind fun c=>(shL rc nm N args).bind fun fs =>
  if args.length+1=c.2.ar then some (false,eMk x [] c.2.run fs) else if args.length+c.1.length+1=c.2.ar then some (false,eMk x c.1 c.2.run fs) else none
 else none
noncomputable def zeC:Expr->Bool | .Name _ _=>true | _=>false
def zto(G:Genv)(rc:Rec)(nm:Names)(N:List Str)(o:Expr)(f:Str):Option (Bool×Fe):=if zeC o&&!G.ob.df f&&G.ob.fk G.ob.cur f then (shE rc nm N o).map fun fo=>(false,ztu G.ob.cur f fo) else none
noncomputable def ztz:Expr->Option (Expr×Str×Pos) | .Attribute o m p=>some (o,m,p) | _=>none
def zj5(h:ztz e=some x):e=.Attribute x.1 x.2.1 x.2.2:=by cases e<;>first | (cases h;done) | (cases h;rfl)
noncomputable def nmF:Expr->Option (Str×Pos) | .Name x p=>some (x,p) | _=>none
def zgY(h:nmF e=some x):e=.Name x.1 x.2:=by cases e<;>first | (cases h;done) | (cases h;rfl)
noncomputable def zms:List CmpOp->Bool | [.NotIn]=>true | _=>false
noncomputable def zuK:List Expr->Option Expr | [a]=>some a | _=>none
def zsU(G:Genv)(rc:Rec)(nm:Names)(N:List Str)(a:Expr)(ops:List CmpOp)(bs:List Expr):Option (Bool×Fe) :=
 if zms ops then (zuK bs).bind fun b=>(ztz b).bind fun t=>if zeC t.1&&G.ob.df t.2.1&&G.ob.fk G.ob.cur t.2.1 then (shE rc nm N a).bind fun fa=>(shE rc nm N t.1).bind fun fo=>some (false,zq1 G.ob.cur t.2.1 fa fo) else none else none
def ztj(G:Genv)(rc:Rec)(nm:Names)(N:List Str)(a i:Expr):Option (Bool×Fe) :=
 (ztz a).bind fun t=>if zeC t.1&&G.ob.df t.2.1&&G.ob.fk G.ob.cur t.2.1 then (nmF i).bind fun x=>(za3 nm N x.1).bind fun j=>(shE rc nm N t.1).bind fun fo=>some (false,zol G.ob.cur t.2.1 fo j) else none
def Gx.same(g:Gx cl G k X nm N E):Same' cl X:=⟨g.kk,g.pp,g.ww⟩
def Gx.u16(g:Gx cl G k X nm N E):X.A.units+16<cLine:=Nat.lt_of_le_of_lt (Nat.add_le_add_left (by decide) _) g.units
def zas{α β:Type}{o:Option α}{f:α->Option β}{b:β}(h:o.bind f=some b):∃a,o=some a/\f a=some b:=by
 cases o with
 | none=>cases h
 | some a=>exact ⟨a,rfl,h⟩
def zqW(hs:zaQ cl G k rc)(g:Gx cl G k X nm N E)(h:zto G rc nm N o f=some (w,fe)):w=false/\PE X (.Attribute o f pos) (tE cl E fe):=by
 unfold zto at h;split at h
 ·rename_i hc;rw [yab,yab] at hc
  cases h1:shE rc nm N o with
  | none=>rw [h1] at h;cases h
  | some fo =>
   rw [h1] at h;cases h;refine ⟨rfl,zpy (g.gok.fk _ _ hc.2) g.kk (zao hs g h1).1 ?_⟩
   cases o<;>first | rfl | cases hc.1.1
 ·cases h
def zqn(hs:zaQ cl G k rc)(g:Gx cl G k X nm N E)(h:zsU G rc nm N a ops bs=some (w,fe)):w=false/\PE X (.Compare a ops bs pos) (tE cl E fe)/\PT X (.Compare a ops bs pos) (tTr cl E fe):=by
 unfold zsU at h;split at h
 ·rename_i hn
  have eo:ops=[.NotIn]:=by
   unfold zms at hn;split at hn
   ·rfl
   ·cases hn
  subst eo;obtain ⟨b,h1,hz⟩:=zas h;obtain ⟨t,h2,hy⟩:=zas hz
  have eb:bs=[b]:=by
   unfold zuK at h1;split at h1
   ·cases h1;rfl
   ·cases h1
  have e2:=zj5 h2;clear h hz h1 h2;subst eb;subst e2;obtain ⟨o,f,ap⟩:=t;dsimp only at hy ⊢;split at hy
  ·rename_i hc;rw [yab,yab] at hc;obtain ⟨fa,h3,hy⟩:=zas hy;obtain ⟨fo,h4,hy⟩:=zas hy;cases hy
   have hb:attributeBase o f X.env (eval o X.env)=eval o X.env:=by cases o<;>first | rfl | cases hc.1.1
   exact ⟨rfl,zpw g.u16 g.same (g.gok.fk _ _ hc.2) (zao hs g h3).1 (zao hs g h4).1 hb rfl,zpb g.u16 g.same (g.gok.fk _ _ hc.2) (zao hs g h3).1 (zao hs g h4).1 hb rfl⟩
  ·cases hy
 ·cases h
def zqQ(hs:zaQ cl G k rc)(g:Gx cl G k X nm N E)(h:ztj G rc nm N a i=some (w,fe)):w=false/\PE X (.Subscript a i pos) (tE cl E fe):=by
 unfold ztj at h;obtain ⟨t,h2,hz⟩:=zas h;have e2:=zj5 h2;clear h h2;subst e2;obtain ⟨o,f,ap⟩:=t;dsimp only at hz ⊢;split at hz
 ·rename_i hc;rw [yab,yab] at hc;obtain ⟨x,h3,hz⟩:=zas hz;obtain ⟨j,h4,hz⟩:=zas hz;obtain ⟨fo,h5,hz⟩:=zas hz;cases hz;have e3:=zgY h3;clear h3;subst e3;obtain ⟨s1,s2,s3,s4⟩:=g.slot h4;refine ⟨rfl,zno s1 s2 s3 s4 g.u16 g.same (g.gok.fk _ _ hc.2) (zao hs g h5).1 ?_ (fun _ _=>rfl)⟩
  cases o<;>first | rfl | cases hc.1.1
 ·cases hz
def zxh(hp:args.all zaB=true)(hl:args.length<30):methodCallForm (args.length+0) (backTo pos (starEach args env)) (backToKw pos (keywordEach [] env))=true:=by
 have h:=zaN (pos:=pos) (env:=env) hp;unfold methodCallForm
 have h1:(backTo pos (starEach args env)).all (!·.1)=true:=by
  rw [List.all_eq_not_any_not];simpa using h
 rw [h1];show (true&&true&&decide (args.length+0+0<30))=true;rw [ycE (by omega)];rfl
def zjb(hb:attributeBase o m env (eval o env)=eval o env)(hf:methodCallForm (args.length+0) (backTo pos (starEach args env)) (backToKw pos (keywordEach [] env))=true)(hp:(ap.endLine == pos.line)=true) :
  eval (.Call (.Attribute o m ap) args [] pos) env=(do
   let ov ← eval o env
   standAt ap.atName
   let (f,first) ← holding [ov] (getMethod ov m (do return (← importBound o env).getD true))
   callWith pos f first (backTo pos (starEach args env)) (backToKw pos (keywordEach [] env))):=by
 show (do
  let ov ← attributeBase o m env (eval o env)
  standAt ap.atName
  methodCall o m ap pos env ov (args.length+0) (backTo pos (starEach args env)) (backToKw pos (keywordEach [] env)))=_
 rw [hb]
 have e:∀ov,methodCall o m ap pos env ov (args.length+0) (backTo pos (starEach args env)) (backToKw pos (keywordEach [] env))=(do
   let (f,first) ← holding [ov] (getMethod ov m (do return (← importBound o env).getD true))
   callWith pos f first (backTo pos (starEach args env)) (backToKw pos (keywordEach [] env))):=fun ov=>by
  unfold methodCall calleeOf methodCallPos;rw [hf,hp];rfl
 simp only [e]
def znU(hs:zaQ cl G k rc)(g:Gx cl G k X nm N E)(h:znV G rc nm N o m ap pos args kws=some (w,fe)):(w=true->PE X (.Call (.Attribute o m ap) args kws pos) (tN cl E fe))/\PE X (.Call (.Attribute o m ap) args kws pos) (tE cl E fe):=by
 unfold znV at h;split at h
 ·rename_i hc;simp only [yab,yaB] at hc;obtain ⟨⟨⟨z1,z2⟩,z3⟩,z4⟩:=hc;obtain rfl:=ybm.mp z1;obtain ⟨⟨c,fi⟩,h1,h⟩:=zas h;dsimp only at h;split at h
  ·rename_i hl;obtain ⟨fo,h2,h⟩:=zas h;obtain ⟨fs,h3,h⟩:=zas h;cases h;obtain ⟨f,fd,ps,c1,c2,c3,c4⟩:=g.gok.mt m c fi h1;obtain ⟨a1,a2,a3⟩:=zdf hs g h3
   have hlen:fs.length+1=fi.ar:=by rw [a3];exact hl
   have hb:attributeBase o m X.env (eval o X.env)=eval o X.env:=by
    unfold zl7 at z2
    split at z2<;>first | rfl | cases z2
   have ht:=zjb (ap:=ap) hb (zxh (pos:=pos) a2 z4) z3
   have main:PE X (.Call (.Attribute o m ap) args [] pos) (zeX (cl c) m (zfU cl fi.ar fi.own fi.run) [] E (tE cl E fo) (tAs cl E fs)):=by
    cases args with
    | nil =>
     cases h3;refine PE.imp (ziZ (zao hs g h2).1 c1 c2 c4 g.room c3 .nil g.pass ht) ?_;rintro σ H Q ⟨B,w,ρ,S,rfl,R,q⟩;refine ⟨B,w,ρ,S,rfl,R,?_⟩
     cases hfo:fo ρ S with
     | bad=>rwa [hfo] at q
     | exc c S1=>rwa [hfo] at q
     | ok d S1 =>
      rw [hfo] at q;intro v w1 R1 F1 sh;obtain ⟨a,dx,fs,e1,e2,e3,B',w',ρ',S',e4,R',q⟩:=q v w1 R1 F1 sh;refine ⟨a,dx,fs,e1,e2,e3,?_⟩;have:=q [] w' R' (Fut.refl _) .nil;rwa [e4] at this
    | cons e es =>
     rw [ybA,yab] at a2;exact zkO (zao hs g h2).1 c1 c2 c4 g.room c3 .nil g.pass a1 (zap a2.1) (zaN a2.2) ht
   cases ho:fi.own with
   | false =>
    rw [ho] at main;exact ⟨(fun z=>by cases z),PE.imp main fun _ _ _ q=>zqr q hlen⟩
   | true =>
    rw [ho] at main;have n:=PE.imp main fun _ _ _ q=>zqq q hlen
    exact ⟨fun _=>n,zbc n⟩
  ·cases h
 ·cases h
def zsW(hs:zaQ cl G k rc)(g:Gx cl G k X nm N E)(h:mkG G rc nm N x args=some (w,fe)):w=false/\PE X (.Call (.Name x p) args [] pos) (tE cl E fe):=by
 unfold mkG at h;split at h
 ·rename_i hc;rw [yab] at hc;obtain ⟨⟨dds,fi⟩,h1,h⟩:=zas h;obtain ⟨fs,h2,h⟩:=zas h;dsimp only at h;obtain ⟨f,fd,ps,dvs,ds,k',hk,mC,M,B0,BD,vd,sd,F⟩:=g.gok.mks x dds fi h1;obtain ⟨a1,a2,a3⟩:=zdf hs g h2;obtain ⟨g1,g2,g3⟩:=g.glob hc.1
  cases args with
  | nil=>cases hc.2
  | cons e es =>
   rw [ybA,yab] at a2;have hr:Room (k'+1) X.A:=g.room.mono hk;split at h
   ·rename_i hl;cases h;exact ⟨rfl,PE.imp (zgU M F hr g1 mC B0 .nil g.pass a1 g2 (zap a2.1) (zaN a2.2)) fun _ _ _ q=>zuN (dds:=[]) (fun _=>.nil) q (by rw [a3];exact hl)⟩
   ·split at h
    ·rename_i hl;cases h;exact ⟨rfl,PE.imp (zgU M F hr g1 mC BD vd g.pass a1 g2 (zap a2.1) (zaN a2.2)) fun _ _ _ q=>zuN sd q (by rw [a3];exact hl)⟩
    ·cases h
 ·cases h
end
noncomputable def zqp:Expr->Option Str | .Name x _=>some x | _=>none
noncomputable def ztd(df:Bool):Option NameKind->Bool | some .local=>true | some .cell=>df | _=>false
def tgI(df:Bool)(nm:Names)(N:List Str)(n:Nat)(x:Str):Option Nat:=if ztd df (nm.lookup x) then (idx N x).bind fun i=>if i<n then some i else none else none
def zoJ(df:Bool)(nm:Names)(N:List Str)(n:Nat):List Expr->Option (List Nat)
 | []=>some []
 | .Name x _::es=>(tgI df nm N n x).bind fun i=>(zoJ df nm N n es).bind fun is=>some (i::is)
 | _::_=>none
def tgG(df:Bool)(nm:Names)(N:List Str)(n:Nat):Expr->Option Tg
 | .Name x _=>(tgI df nm N n x).map .one
 | .Tuple es _ _=>(zoJ df nm N n es).map .tup
 | _=>none
structure Sto'(X:Cx)(nm:Names)(df:Bool):Prop where
 fn:df=true->∀x,nm.lookup x=some .cell->X.fn x=true
section
variable{cl:Cf}{G:Genv}{k:Nat}{X:Cx}{nm:Names}{N:List Str}{E:St->XK}{df:Bool}{n:Nat}
def zbn(g:Gx cl G k X nm N E)(sd:Sto' X nm df)(h:tgI df nm N n x=some i):i<n/\X.N.Nodup/\X.N[i]?=some x/\Loc X.env.scope x/\(X.fn x=true\/X.env.scope.names.lookup x=some .local):=by
 unfold tgI at h;split at h
 ·rename_i hl
  cases hi:idx N x with
  | none=>rw [hi] at h;cases h
  | some j =>
   rw [hi] at h;dsimp only [Option.bind] at h;split at h
   ·rename_i hn;cases h;refine ⟨hn,by rw [g.eN];exact g.nd,by rw [g.eN];exact zcP hi,?_,?_⟩
    ·cases hk:nm.lookup x with
     | none=>rw [hk] at hl;cases hl
     | some kd =>
      obtain ⟨kd',e,z⟩:=g.vis x kd hk;rw [hk] at hl;unfold L2.Loc;rw [e]
      rcases z with rfl | ⟨rfl,_⟩
      ·cases kd'<;>first | exact .inl rfl | exact .inr rfl | cases hl
      ·cases hl
    ·cases hk:nm.lookup x with
     | none=>rw [hk] at hl;cases hl
     | some kd =>
      rw [hk] at hl
      cases kd<;>first | exact .inr (g.fnx x hk) | exact .inl (sd.fn hl x hk) | cases hl
   ·cases h
 ·cases h
theorem zih(g:Gx cl G k X nm N E)(sd:Sto' X nm df):∀{es:List Expr} {is:List Nat},zoJ df nm N n es=some is->PGs X es (tGs cl n is)/\(assignEach es X.env).length=is.length/\(assignEach es X.env).findIdx? (·.1)=none
 | [],is,h=>by cases h;exact ⟨zng,rfl,rfl⟩
 | e::es,is,h=>by
  cases e with
  | Name x pos =>
   unfold zoJ at h
   cases h1:tgI df nm N n x with
   | none=>rw [h1] at h;cases h
   | some i =>
    rw [h1] at h
    cases h2:zoJ df nm N n es with
    | none=>rw [h2] at h;cases h
    | some is' =>
     rw [h2] at h;cases h;obtain ⟨a1,a2,a3,a4,a5⟩:=zbn g sd h1;obtain ⟨b1,b2,b3⟩:=zih g sd h2;refine ⟨zkr a1 a2 a3 a4 a5 b1,?_,?_⟩
     ·show (assignEach es X.env).length+1=_;rw [b2];rfl
     ·show ((false,assign (.Name x pos) X.env)::assignEach es X.env).findIdx? (·.1)=none;rw [List.findIdx?_cons];simp [b3]
  | _=>cases h
def zmK(g:Gx cl G k X nm N E)(sd:Sto' X nm df)(h:tgG df nm N n tg=some t):PG X tg (tG cl n t):=by
 unfold tgG at h;split at h
 ·rename_i x pos
  cases h1:tgI df nm N n x with
  | none=>rw [h1] at h;cases h
  | some i =>
   rw [h1] at h;cases h;obtain ⟨a1,a2,a3,a4,a5⟩:=zbn g sd h1;exact zpr a1 a2 a3 a4 a5
 ·rename_i es kk pos
  cases h1:zoJ df nm N n es with
  | none=>rw [h1] at h;cases h
  | some is =>
   rw [h1] at h;cases h;obtain ⟨b1,b2,b3⟩:=zih g sd h1;exact zpq g.calm b1 b2 b3
 ·cases h
end
def zaJ:Expr->List Str
 | .Name x _=>[x]
 | .Tuple es _ _=>es.filterMap zqp
 | _=>[]
def zaP(names:Names)(N:List Str):List (Str×Nat):=names.filterMap fun p=>if p.2=.free then (idx N p.1).map fun i=>(p.1,i) else none
noncomputable def zw9:Option NameKind->Bool | some .cell=>true | some .free=>true | _=>false
def zjS(nm:Names)(scope:Scope)(xs:List Str)(caps:List (Str×Nat)):Bool :=
 decide (scope.kind=.function)&&decide ((scope.names.map (·.1)).Nodup)&&scope.names.all (fun y=>!decide (y.2=.local)||decide (scope.names.lookup y.1=some .local))
 && scope.names.all (fun y=>!decide (y.2=.free)||zw9 (nm.lookup y.1))&&caps.all (fun p=>scope.names.all fun z=>!decide (z.1=p.1)||decide (z.2=.free))&&decide ((xs++caps.map (·.1)).Nodup)
def zlA(rc:Rec)(nm:Names)(N:List Str):List Expr->Option Fe
 | []=>some zmv
 | [c]=>if zaS c then shE rc nm N c else none
 | _=>none
def zhW(G:Genv)(rc:Rec)(nm:Names)(N:List Str)(elt:Expr)(g:Comprehension)(scope:Scope):Option Fe :=
 if decide (g.is_async=0)&&zjS nm scope (zaJ g.target) (zaP scope.names N) then
  (zhP G rc nm N g.target g.iter).bind fun it =>
  (tgG true scope.names (zaJ g.target++(zaP scope.names N).map (·.1)) (zaJ g.target).length g.target).bind fun t =>
  (zlA rc scope.names (zaJ g.target++(zaP scope.names N).map (·.1)) g.ifs).bind fun c =>
  (shE rc scope.names (zaJ g.target++(zaP scope.names N).map (·.1)) elt).bind fun el =>
  some (zdb (zaJ g.target).length t it c el ((zaP scope.names N).map (·.2)))
 else none
theorem zcf{scope:Scope}{env:PySem.Env}:∀{names:Names} {x:Str} {kd:NameKind},names.lookup x=some kd →
  ∃kd',(names.map fun (n,k)=>if (k == NameKind.free&&env.scope.kind == .function&&env.kindOf n == some .cell) then (n,NameKind.cell) else (n,k)).lookup x=some kd'/\(kd'=kd\/(kd=.free/\kd'=.cell))
 | [],_,_,h=>by cases h
 | (n,k0)::r,x,kd,h=>by
  rw [yaw] at h;rw [yaR];dsimp only
  by_cases hc:(k0 == NameKind.free&&env.scope.kind == .function&&env.kindOf n == some .cell)=true
  ·rw [if_pos hc,yaw]
   cases hx:x == n with
   | true =>
    rw [hx] at h;cases h;simp only [yab,ybV] at hc;exact ⟨_,rfl,.inr ⟨hc.1.1,rfl⟩⟩
   | false=>rw [hx] at h;exact zcf (scope:=scope) h
  ·rw [if_neg hc,yaw]
   cases hx:x == n with
   | true=>rw [hx] at h;cases h;exact ⟨_,rfl,.inl rfl⟩
   | false=>rw [hx] at h;exact zcf (scope:=scope) h
section
variable{cl:Cf}{G:Genv}{k:Nat}{rc:Rec}{X:Cx}{nm:Names}{N:List Str}{E:St->XK}
def zhV(g:Gx cl G k X nm N E)(h:zjS nm scope xs (zaP scope.names N)=true):CompScopeG X.env.scope scope X.N xs (zaP scope.names N)/\(xs++(zaP scope.names N).map (·.1)).Nodup:=by
 unfold zjS at h;simp only [yab,ybv,yaB,ycZ,ybE,ycx] at h;obtain ⟨⟨⟨⟨⟨h1,h2⟩,h3⟩,h4⟩,h5⟩,h6⟩:=h
 have fr:∀y∈scope.names,y.2=.free->X.env.scope.names.lookup y.1=some .cell\/X.env.scope.names.lookup y.1=some .free:=fun y hy hf=>by
  rcases h4 y hy with z | z
  ·exact absurd hf z
  ·cases hk:nm.lookup y.1 with
   | none=>rw [hk] at z;cases z
   | some kd =>
    obtain ⟨kd',e,zz⟩:=g.vis y.1 kd hk;rw [hk] at z;rw [e]
    rcases zz with rfl | ⟨_,rfl⟩
    ·cases kd'<;>first | exact .inl rfl | exact .inr rfl | cases z
    ·exact .inl rfl
 refine ⟨⟨h2,h1,fun y hy hl=>(h3 y hy).elim (fun z=>absurd hl z) fun z=>z,fr,fun p hp=>?_,fun p hp z hz e=>(h5 p hp z hz).elim (fun w=>absurd e w) fun w=>w⟩,h6⟩;unfold zaP at hp;obtain ⟨q,hq,e⟩:=ycn.mp hp;split at e
 ·rename_i hf
  cases hi:idx N q.1 with
  | none=>rw [hi] at e;cases e
  | some i =>
   rw [hi] at e;have e':(q.1,i)=p:=Option.some.inj e;subst e';refine ⟨by rw [g.eN];exact zcP hi,by rw [<-hf];exact hq,?_⟩
   rcases fr q hq hf with z | z<;>rw [z]<;>exact fun w=>by cases w
 ·cases e
def zeE(g:Gx cl G k X nm N E)(hn:(xs++(zaP scope.names N).map (·.1)).Nodup)(cl':List (Str×Addr))(C:Addr)(s:Shared)(H:Hp)(fp:List Addr) :
  Gx cl G k (zaM X xs (zaP scope.names N) scope cl' C s H fp) scope.names (xs++(zaP scope.names N).map (·.1)) noE where
 gok:=g.gok
 room:=g.room
 calm:=g.calm
 pass:=fun pins σ H s e s' I q=>by
  obtain ⟨a,cls,a0,H',B,_,_,_,_,_,_,_,_,_,z⟩:=q;exact z.elim
 eN:=rfl
 kk:=g.kk
 pp:=g.pp
 ww:=g.ww
 nd:=hn
 vis:=fun x kd h=>zcf (scope:=scope) h
 fnx:=fun x h=>lookup_relabel_local h
 cod:=fun c h=>g.cod c h
 fnc:=fun x h=>ycE h
def zoo(hs:zaQ cl G k rc)(g:Gx cl G k X nm N noE)(h:zlA rc nm N ifs=some c):PIf X ifs (tTr cl noE c):=by
 unfold zlA at h;split at h
 ·cases h;intro pins s σ H Q I q;obtain ⟨B,w,ρ,S,rfl,R,q⟩:=q;exact znG pins s σ w.H Q I (q w R (Fut.refl _))
 ·split at h
  ·rename_i c ht;obtain ⟨_,a2,_⟩:=zao hs g h;exact znF (a2 ht)
  ·cases h
 ·cases h
def zeb(hs:zaQ cl G k rc)(g:Gx cl G k X nm N E)(h:zhW G rc nm N elt gg scope=some f) :
  ∃it t c el,f=zdb (zaJ gg.target).length t it c el ((zaP scope.names N).map (·.2))/\gg=⟨gg.target,gg.iter,gg.ifs,0⟩/\CompScopeG X.env.scope scope X.N (zaJ gg.target) (zaP scope.names N)/\PI X gg.target gg.iter (tI cl E it)/\okE gg.iter=true ∧
   (∀cl' C s H fp,PG (zaM X (zaJ gg.target) (zaP scope.names N) scope cl' C s H fp) gg.target (tG cl (zaJ gg.target).length t)) ∧
   (∀cl' C s H fp,PIf (zaM X (zaJ gg.target) (zaP scope.names N) scope cl' C s H fp) gg.ifs (tTr cl noE c)) ∧
   ∀cl' C s H fp,PE (zaM X (zaJ gg.target) (zaP scope.names N) scope cl' C s H fp) elt (tE cl noE el):=by
 unfold zhW at h;split at h
 ·rename_i hc;rw [yab] at hc;obtain ⟨S,hn⟩:=zhV g hc.2
  cases h1:zhP G rc nm N gg.target gg.iter with
  | none=>rw [h1] at h;cases h
  | some it =>
   rw [h1] at h;dsimp only [Option.bind] at h
   cases h2:tgG true scope.names (zaJ gg.target++(zaP scope.names N).map (·.1)) (zaJ gg.target).length gg.target with
   | none=>rw [h2] at h;cases h
   | some t =>
    rw [h2] at h;dsimp only at h
    cases h3:zlA rc scope.names (zaJ gg.target++(zaP scope.names N).map (·.1)) gg.ifs with
    | none=>rw [h3] at h;cases h
    | some c =>
     rw [h3] at h;dsimp only at h
     cases h4:shE rc scope.names (zaJ gg.target++(zaP scope.names N).map (·.1)) elt with
     | none=>rw [h4] at h;cases h
     | some el =>
      rw [h4] at h;cases h;obtain ⟨i1,i2⟩:=zjs hs g (tg:=gg.target) h1;refine ⟨it,t,c,el,rfl,?_,S,i1,i2,fun cl' C s H fp=>zmK (zeE g hn cl' C s H fp) ⟨fun _ x hx=>ycE hx⟩ h2,fun cl' C s H fp=>zoo hs (zeE g hn cl' C s H fp) h3,fun cl' C s H fp=>(zao hs (zeE g hn cl' C s H fp) h4).1⟩;have:=yal hc.1;cases gg;simp only at this;rw [this]
 ·cases h
def zjQ(hs:zaQ cl G k rc)(g:Gx cl G k X nm N E)(h:zhW G rc nm N elt gg scope=some f):PE X (.ListComp elt [gg] scope pos) (tN cl E f):=by
 obtain ⟨it,t,c,el,rfl,eg,S,i1,i2,i3,i4,i5⟩:=zeb hs g h;rw [eg];exact PE.imp (zkT g.calm S i1 i3 i4 i5 (zev i2)) fun _ _ _ q=>zmB q
end
noncomputable def zvC:Expr->Bool | .Slice _ _ _ _=>false | _=>true
def zrI(rc:Rec)(nm:Names)(N:List Str):Option Expr->Option (Option Fe)
 | none=>some none
 | some e=>(opE rc nm N e).map some
def zuM(m:Str):Option (List D->D->Option D):=if m = "count" then some zdG else if m = "index" then some zbi else none
def zfD:∀(l:List D) (d r:D),zdG l d=some r->∃n,r=.int n:=by
 intro l d r h;unfold zdG at h;split at h
 ·cases h;exact ⟨_,rfl⟩
 ·cases h
def zfr:∀(l:List D) (d r:D),zbi l d=some r->∃n,r=.int n:=by
 intro l d r h;unfold zbi at h;split at h
 ·cases h;exact ⟨_,rfl⟩
 ·cases h
def unG(rc:Rec)(nm:Names)(N:List Str)(a:Expr):UnaryOp->Option (Bool×Fe)
 | .Not=>if zaS a then (shE rc nm N a).map fun f=>(false,eUn zfV f) else none
 | .USub=>(opE rc nm N a).map fun f=>(false,eUn zgZ f)
 | _=>none
def zq7(rc:Rec)(nm:Names)(N:List Str)(a:Expr):List CmpOp->List Expr->Option (Bool×Fe)
 | [op],[b]=>(zq8 op b).bind fun g=>(opE rc nm N a).bind fun f=>(opE rc nm N b).bind fun h=>some (false,zal g f h)
 | [op,op'],[b,c]=>(zq8 op b).bind fun g=>(zq8 op' c).bind fun g'=>(opE rc nm N a).bind fun f=>(opE rc nm N b).bind fun h=>(opE rc nm N c).bind fun k=>some (false,zbH g g' f h k)
 | _,_=>none
def zuA(rc:Rec)(nm:Names)(N:List Str)(a:Expr):Expr->Option (Bool×Fe)
 | .Slice lo hi none _=>(opE rc nm N a).bind fun f=>(zrI rc nm N lo).bind fun l=>(zrI rc nm N hi).bind fun u=>some (false,eSl f l u)
 | .Slice none none (some st) _=>(opE rc nm N a).bind fun f=>(opE rc nm N st).bind fun h=>some (false,zal zkB f h)
 | i=>if zvC i then (opE rc nm N a).bind fun f=>(opE rc nm N i).bind fun h=>some (false,zal ixD f h) else none
def zvG(rc:Rec)(nm:Names)(N:List Str)(x m:Str)(ap cp:Pos):List Expr->List Keyword->Option (Bool×Fe)
 | [a],[]=>if ap.endLine == cp.line then (za3 nm N x).bind fun i=>(opE rc nm N a).bind fun f=>if decide (m = "index") then some (false,zok i f) else (zuM m).bind fun g=>some (false,eMt g i f) else none
 | [a,b],[]=>if decide (m = "get")&&(ap.endLine == cp.line) then (za3 nm N x).bind fun i=>(shE rc nm N a).bind fun f=>(shE rc nm N b).bind fun h=>some (false,zjN i f h) else none
 | _,_=>none
def zmC(G:Genv)(rc:Rec)(nm:Names)(N:List Str)(args:List Expr)(kws:List Keyword)(cp:Pos):Expr->Option (Bool×Fe)
 | .Attribute o m ap=>(match (nmF o).bind fun x=>zvG rc nm N x.1 m ap cp args kws with | some p=>some p | none=>znV G rc nm N o m ap cp args kws)
 | .Name x _=>if kws.isEmpty then (match mkG G rc nm N x args with | some p=>some p | none=>(match spG G rc nm N x args with | some p=>some p | none=>zot G rc nm N x args)) else none
 | _=>none
def lcG(G:Genv)(rc:Rec)(nm:Names)(N:List Str)(elt:Expr)(scope:Scope):List Comprehension->Option (Bool×Fe)
 | [g]=>(zhW G rc nm N elt g scope).map fun f=>(true,f)
 | _=>none
def zlD(nm:Names)(N:List Str):List Str->Option (List Nat)
 | []=>some []
 | x::xs=>if nm.lookup x=some .cell then (idx N x).bind fun i=>(zlD nm N xs).map (i::·) else none
def zmJ(G:Genv)(nm:Names)(N:List Str)(args:List Expr)(kws:List Keyword)(f:Expr):Option (Bool×Fe):=match f,args,kws with
 | .Name x _,[e],[]=>if decide (x = "_law_told")&&zaD nm x then (G.lam e).bind fun r=>(zlD nm N r.1).map fun cs=>(false,zbS G.und G.isx cs r.2) else none
 | _,_,_=>none
def zaK(G:Genv)(rc:Rec):Rec:=fun nm N e=>match e with
 | .Constant c _ _=>(zvF c).map fun d=>(false,zae d)
 | .Name x _=>(match za3 nm N x with
  | some i=>some (false,zan i)
  | none=>if zaD nm x then (G.con x).map fun d=>(false,zae d) else none)
 | .Tuple es _ _=>(shL rc nm N es).map fun fs=>(false,za5 fs)
 | .List es _=>(shL rc nm N es).map fun fs=>(true,zc6 fs)
 | .BinOp a op b _=>if zoc a&&zqM op then (opE rc nm N a).bind fun f=>(opE rc nm N b).bind fun h=>some (true,zal zdo f h) else (zty op).bind fun g=>(opE rc nm N a).bind fun f=>(opE rc nm N b).bind fun h=>some (false,zal g f h)
 | .UnaryOp op a _=>unG rc nm N a op
 | .BoolOp op es _=>(zh2 rc nm N op es).map fun f=>(false,f)
 | .Compare a ops bs _=>(match zsU G rc nm N a ops bs with | some p=>some p | none=>zq7 rc nm N a ops bs)
 | .IfExp c a b _=>if zaS c then (shE rc nm N c).bind fun g=>(shE rc nm N a).bind fun f=>(shE rc nm N b).bind fun h=>some (false,eIf g f h) else none
 | .Subscript a i _=>(match ztj G rc nm N a i with | some p=>some p | none=>zuA rc nm N a i)
 | .Attribute o f _=>zto G rc nm N o f
 | .Call f args kws cp=>(match zmJ G nm N args kws f with | some p=>some p | none=>zmC G rc nm N args kws cp f)
 | .ListComp elt gs scope _=>lcG G rc nm N elt scope gs
 | .Dict [] [] _=>some (true,zlu)
 | _=>none
noncomputable def zrY(G:Genv):Nat->Rec
 | 0=>fun _ _ _=>none
 | n+1=>zaK G (zrY G n)
section
variable{cl:Cf}{G:Genv}{k:Nat}{rc:Rec}
def zlg(h:zvC i=true):zeR i:=by
 intro o j
 cases i<;>first | rfl | cases h
def zaa{α β:Type}{o:Option α}{f:α->Option β}{b:β}(h:o.bind f=some b):∃a,o=some a/\f a=some b:=by
 cases o with
 | none=>cases h
 | some a=>exact ⟨a,rfl,h⟩
def zaw{α β:Type}{o:Option α}{f:α->β}{b:β}(h:o.map f=some b):∃a,o=some a/\f a=b:=by
 cases o with
 | none=>cases h
 | some a=>exact ⟨a,rfl,Option.some.inj h⟩
def zgW(hs:zaQ cl G k rc)(g:Gx cl G k X nm N E)(h:zrI rc nm N o=some f):PO X o (zrB cl E f):=by
 unfold zrI at h;split at h
 ·cases h;exact znD
 ·obtain ⟨a,h1,rfl⟩:=zaw h;exact znC (zaY hs g h1).1
theorem zjV{X:Cx}{nm:Names}{N:List Str}{E:St->XK}(g:Gx cl G k X nm N E):∀{xs:List Str} {cs:List Nat},zlD nm N xs=some cs->CapsOk X xs cs
 | [],cs,h=>by cases h;exact ⟨rfl,fun j x i h=>by simp at h⟩
 | x::xs,cs,h=>by
  unfold zlD at h;split at h
  ·rename_i hx;obtain ⟨i,h1,h⟩:=ybU.mp h;obtain ⟨cs',h2,h⟩:=ycB.mp h;subst h;have c:=zjV g h2;refine ⟨by rw [yam,yam,c.len],fun j y i' e1 e2=>?_⟩
   cases j with
   | zero =>
    cases e1;cases e2;refine ⟨by rw [g.eN];exact zcP h1,?_,g.fnc _ hx⟩;obtain ⟨kd,a1,a2⟩:=g.vis _ _ hx
    rcases a2 with z | ⟨z,_⟩
    ·rwa [z] at a1
    ·cases z
   | succ j=>exact c.at' j y i' e1 e2
  ·cases h
def zmI{X:Cx}{nm:Names}{N:List Str}{E:St->XK}(g:Gx cl G k X nm N E){args:List Expr}{kws:List Keyword}{f:Expr}{cp:Pos}{o:Bool}{fe:Fe}(h:zmJ G nm N args kws f=some (o,fe)):o=false/\PE X (.Call f args kws cp) (tE cl E fe):=by
 unfold zmJ at h;split at h
 ·rename_i x p e;split at h
  ·rename_i hc;rw [yab] at hc;have ex:=yal hc.1;subst ex;obtain ⟨r,h1,h⟩:=ybU.mp h;obtain ⟨cs,h2,h⟩:=ycB.mp h;cases h;exact ⟨rfl,g.gok.tl e r.1 r.2 h1 X E cs p cp rfl rfl rfl rfl rfl g.room g.calm (g.glob hc.2).1 g.cod (zjV g h2)⟩
  ·cases h
 ·cases h
def zly(hs:zaQ cl G k rc):zaQ cl G k (zaK G rc):=by
 intro X nm N E g e o f h;cases e
 case Constant =>
  unfold zaK at h;dsimp only at h;obtain ⟨d,h1,h2⟩:=zaw h;cases h2;rename_i c kk pos
  have p:PE X (.Constant c kk pos) (tE cl E (zae d)):=by
   cases c<;>simp [zvF] at h1<;>subst h1
   ·exact zem zpW fun w=>.non
   ·exact zem znI fun w=>.bl _
   ·exact zem zmd fun w=>.int _
   ·exact zem zmc fun w=>.str _
  exact ⟨(fun z=>by cases z),p,fun _=>zaz p (fun _=>rfl),rfl⟩
 case Name =>
  unfold zaK at h;dsimp only at h;rename_i x pos;split at h
  ·rename_i i hi;cases h;obtain ⟨h1,h2,h3,h4⟩:=g.slot hi;have p:PE X (.Name x pos) (tE cl E (zan i)):=zps h1 h2 h3 h4;exact ⟨(fun z=>by cases z),p,fun _=>zaz p (fun _=>rfl),rfl⟩
  ·split at h
   ·rename_i hg;obtain ⟨d,h1,h2⟩:=zaw h;cases h2;obtain ⟨g1,g2,g3⟩:=g.glob hg;obtain ⟨v,u,m,r,sh⟩:=g.gok.con x d h1;have p:PE X (.Name x pos) (tE cl E (zae d)):=zem (zgb g1 m r g2) sh;exact ⟨(fun z=>by cases z),p,fun _=>zaz p (fun _=>rfl),rfl⟩
   ·cases h
 case Tuple =>
  unfold zaK at h;dsimp only at h;obtain ⟨fs,h1,h2⟩:=zaw h;cases h2;rename_i es kk pos;have p:PE X (.Tuple es kk pos) (tE cl E (za5 fs)):=zpt (zdf hs g h1).1;exact ⟨(fun z=>by cases z),p,fun _=>zaz p (fun _=>rfl),rfl⟩
 case List =>
  unfold zaK at h;dsimp only at h;obtain ⟨fs,h1,h2⟩:=zaw h;cases h2;rename_i es pos;have p:PE X (.List es pos) (tN cl E (zc6 fs)):=zgN (zdf hs g h1).1;exact ⟨fun _=>p,zbc p,fun _=>zaz (zbc p) (fun _=>rfl),rfl⟩
 case BinOp =>
  unfold zaK at h;dsimp only at h;split at h
  ·rename_i a op b pos hm;obtain ⟨fa,h2,h⟩:=zaa h;obtain ⟨fb,h3,h⟩:=zaa h;cases h;rw [yab] at hm
   have ho:op=.Mult:=by cases op<;>first | rfl | cases hm.2
   subst ho;have p:PE X (.BinOp a .Mult b pos) (tN cl E (zal zdo fa fb)):=znl (zaY hs g h2).1 (zaY hs g h3).1;exact ⟨fun _=>p,zbc p,fun _=>zaz (zbc p) (fun _=>rfl),rfl⟩
  obtain ⟨gg,h1,h⟩:=zaa h;obtain ⟨fa,h2,h⟩:=zaa h;obtain ⟨fb,h3,h⟩:=zaa h;cases h;exact ⟨(fun z=>by cases z),ziD (zmD h1) (zaY hs g h2).1 (zaY hs g h3).1,fun _=>zaz (ziD (zmD h1) (zaY hs g h2).1 (zaY hs g h3).1) (fun _=>rfl),rfl⟩
 case UnaryOp =>
  unfold zaK at h;dsimp only at h;rename_i op a pos;unfold unG at h;split at h
  ·split at h
   ·rename_i ht;obtain ⟨fa,h1,h2⟩:=zaw h;cases h2;obtain ⟨a1,a2,_⟩:=zao hs g h1;exact ⟨(fun z=>by cases z),zpv a1,fun _=>zl0 (a2 ht),rfl⟩
   ·cases h
  ·obtain ⟨fa,h1,h2⟩:=zaw h;cases h2;have p:PE X (.UnaryOp .USub a pos) (tE cl E (eUn zgZ fa)):=zsu zoT (zaY hs g h1).1;exact ⟨(fun z=>by cases z),p,fun _=>zaz p (fun _=>rfl),rfl⟩
  ·cases h
 case BoolOp =>
  unfold zaK at h;dsimp only at h;obtain ⟨fa,h1,h2⟩:=zaw h;cases h2;rename_i op es pos;obtain ⟨b1,b2⟩:=zj2 hs g (pos:=pos) h1;exact ⟨(fun z=>by cases z),b1,fun _=>b2.pt,rfl⟩
 case Compare =>
  unfold zaK at h;dsimp only at h;rename_i a ops bs pos;split at h
  ·rename_i p hp;obtain ⟨w,fe⟩:=p;cases h;obtain ⟨rfl,n1,n2⟩:=zqn hs g (pos:=pos) hp;exact ⟨(fun z=>by cases z),n1,fun _=>n2,rfl⟩
  unfold zq7 at h;split at h
  ·obtain ⟨gg,h1,h⟩:=zaa h;obtain ⟨fa,h2,h⟩:=zaa h;obtain ⟨fb,h3,h⟩:=zaa h;cases h;obtain ⟨a1,_⟩:=zaY hs g h2;obtain ⟨b1,b2⟩:=zaY hs g h3;exact ⟨(fun z=>by cases z),zpz (zec g h1) a1 b1 (zdn b2),fun _=>zl1 (zec g h1) a1 b1 (zdn b2),rfl⟩
  ·obtain ⟨gg,h1,h⟩:=zaa h;obtain ⟨gg',h1',h⟩:=zaa h;obtain ⟨fa,h2,h⟩:=zaa h;obtain ⟨fb,h3,h⟩:=zaa h;obtain ⟨fc,h4,h⟩:=zaa h;cases h;obtain ⟨a1,_⟩:=zaY hs g h2;obtain ⟨b1,_⟩:=zaY hs g h3;obtain ⟨c1,c2⟩:=zaY hs g h4;have hm:∀{op op':CmpOp} {b c:Expr},okE c=true->lastMarks [op,op'] [b,c]=false:=fun h=>zdn h
   exact ⟨(fun z=>by cases z),zkw (zec g h1) (zec g h1') a1 b1 c1 (hm c2),fun _=>zko (zec g h1) (zec g h1') a1 b1 c1 (hm c2),rfl⟩
  ·cases h
 case IfExp =>
  unfold zaK at h;dsimp only at h;split at h
  ·rename_i c a b pos ht;obtain ⟨fc,h1,h⟩:=zaa h;obtain ⟨fa,h2,h⟩:=zaa h;obtain ⟨fb,h3,h⟩:=zaa h;cases h;obtain ⟨_,c2,_⟩:=zao hs g h1;exact ⟨(fun z=>by cases z),zsx (c2 ht) (zao hs g h2).1 (zao hs g h3).1,(fun z=>by cases z),rfl⟩
  ·cases h
 case Subscript =>
  unfold zaK at h;dsimp only at h;rename_i a i pos;split at h
  ·rename_i p hp;obtain ⟨w,fe⟩:=p;cases h;obtain ⟨rfl,n1⟩:=zqQ hs g (pos:=pos) hp;exact ⟨(fun z=>by cases z),n1,fun _=>zaz n1 (fun _=>rfl),rfl⟩
  unfold zuA at h;split at h
  ·obtain ⟨fa,h1,h⟩:=zaa h;obtain ⟨fl,h2,h⟩:=zaa h;obtain ⟨fu,h3,h⟩:=zaa h;cases h;exact ⟨(fun z=>by cases z),zpu (zaY hs g h1).1 (zgW hs g h2) (zgW hs g h3),fun _=>zaz (zpu (zaY hs g h1).1 (zgW hs g h2) (zgW hs g h3)) (fun _=>rfl),rfl⟩
  ·obtain ⟨fa,h1,h⟩:=zaa h;obtain ⟨fb,h2,h⟩:=zaa h;cases h;exact ⟨(fun z=>by cases z),zgM (zaY hs g h1).1 (zaY hs g h2).1,fun _=>zaz (zgM (zaY hs g h1).1 (zaY hs g h2).1) (fun _=>rfl),rfl⟩
  ·split at h
   ·rename_i hix;obtain ⟨fa,h1,h⟩:=zaa h;obtain ⟨fb,h2,h⟩:=zaa h;cases h;have p:PE X (.Subscript a _ pos) (tE cl E (zal ixD fa fb)):=zpx (zqP g.kk) (zaY hs g h1).1 (zaY hs g h2).1 (zlg hix);exact ⟨(fun z=>by cases z),p,fun _=>zaz p (fun _=>rfl),rfl⟩
   ·cases h
 case Attribute =>
  unfold zaK at h;dsimp only at h;rename_i o fl pos;obtain ⟨rfl,n1⟩:=zqW hs g (pos:=pos) h;exact ⟨(fun z=>by cases z),n1,fun _=>zaz n1 (fun _=>rfl),rfl⟩
 case Call =>
  unfold zaK at h;dsimp only at h;rename_i fn args kws cp;split at h
  ·rename_i pt hpt;obtain ⟨w,fe⟩:=pt;cases h;obtain ⟨rfl,n1⟩:=zmI g (cp:=cp) hpt;exact ⟨(fun z=>by cases z),n1,fun _=>zaz n1 (fun _=>rfl),rfl⟩
  rename_i hno;clear hno;unfold zmC at h;split at h
  ·rename_i o m ap;split at h
   rotate_left
   ·obtain ⟨a1,a2⟩:=znU hs g (ap:=ap) (pos:=cp) h;exact ⟨a1,a2,fun _=>zaz a2 (fun _=>rfl),rfl⟩
   rename_i pp hpp;obtain ⟨⟨x,p⟩,e1,h2⟩:=zaa hpp;have e2:=zgY e1;have h3:=h;cases h3;clear hpp e1;subst e2;replace h:=h2;clear h2;dsimp only at h ⊢;unfold zvG at h;split at h
   ·rename_i a;split at h
    ·rename_i hln;obtain ⟨i,h1,h⟩:=zaa h;obtain ⟨fa,h2,h⟩:=zaa h;split at h
     ·rename_i hix;have em:=yal hix;cases h;subst em;obtain ⟨n1,n2,n3,n4⟩:=g.slot h1;obtain ⟨a1,a3⟩:=zaY hs g h2;have p:PE X (.Call (.Attribute (.Name x p) "index" ap) [a] [] cp) (tE cl E (zok i fa)):=znj g.kk (by have:=g.units;omega) n1 n2 n3 n4 a1 (zac a3) hln;exact ⟨(fun z=>by cases z),p,fun _=>zaz p (fun _=>rfl),rfl⟩
     obtain ⟨gg,h3,h⟩:=zaa h;cases h;obtain ⟨n1,n2,n3,n4⟩:=g.slot h1;obtain ⟨a1,a2⟩:=zaY hs g h2
     have p:PE X (.Call (.Attribute (.Name x p) m ap) [a] [] cp) (tE cl E (eMt gg i fa)):=by
      unfold zuM at h3;split at h3
      ·rename_i em;cases h3;subst em;exact zkv PySem.F.slot_list_count PySem.F.type_list_count (zg2 g.kk g.units) zfD n1 n2 n3 n4 a1 (zac a2) hln
      ·split at h3
       ·rename_i em;cases h3;subst em;exact zkv PySem.F.slot_list_index PySem.F.type_list_index (zg1 g.kk g.units) zfr n1 n2 n3 n4 a1 (zac a2) hln
       ·cases h3
     exact ⟨(fun z=>by cases z),p,fun _=>zaz p (fun _=>rfl),rfl⟩
    ·cases h
   ·rename_i a b;split at h
    ·rename_i hc;rw [yab] at hc;have em:=yal hc.1;obtain ⟨i,h1,h⟩:=zaa h;obtain ⟨fa,h2,h⟩:=zaa h;obtain ⟨fb,h3,h⟩:=zaa h;cases h;subst em;obtain ⟨n1,n2,n3,n4⟩:=g.slot h1;obtain ⟨a1,a2,a3⟩:=zao hs g h2;obtain ⟨b1,b2,b3⟩:=zao hs g h3;have q:PE X (.Call (.Attribute (.Name x p) "get" ap) [a,b] [] cp) (tE cl E (zjN i fa fb)):=znn g.same n1 n2 n3 n4 a1 b1 ⟨rfl,zc3 (by simp [zac a3,zac b3]) (by simp),hc.2,by rw [zap (zac a3),zap (zac b3)];rfl⟩;exact ⟨(fun z=>by cases z),q,fun _=>zaz q (fun _=>rfl),rfl⟩
    ·cases h
   ·cases h
  ·rename_i x p;split at h
   ·rename_i hk
    have hk':kws=[]:=by simpa using hk
    subst hk';split at h
    ·rename_i pm hmk;obtain ⟨w,fe⟩:=pm;cases h;obtain ⟨rfl,n1⟩:=zsW hs g (p:=p) (pos:=cp) hmk;exact ⟨(fun z=>by cases z),n1,fun _=>zaz n1 (fun _=>rfl),rfl⟩
    split at h
    ·rename_i hsp;cases h;obtain ⟨a1,a2⟩:=zss hs g (p:=p) (pos:=cp) hsp;exact ⟨a1,a2,fun _=>zaz a2 (fun _=>rfl),rfl⟩
    ·obtain ⟨a1,a2⟩:=zos hs g (p:=p) (pos:=cp) h;exact ⟨a1,a2,fun _=>zaz a2 (fun _=>rfl),rfl⟩
   ·cases h
  ·cases h
 case ListComp =>
  unfold zaK at h;dsimp only at h;rename_i elt gs scope pos;unfold lcG at h;split at h
  ·obtain ⟨fa,h1,h2⟩:=zaw h;cases h2;rename_i gg;have p:PE X (.ListComp elt [gg] scope pos) (tN cl E f):=zjQ hs g h1;exact ⟨fun _=>p,zbc p,fun _=>zaz (zbc p) (fun _=>rfl),rfl⟩
  ·cases h
 case Dict ks vs _ =>
  cases ks with
  | cons _ _=>cases h
  | nil =>
   cases vs with
   | cons _ _=>cases h
   | nil =>
    unfold zaK at h;dsimp only at h;rename_i pos;cases h;exact ⟨fun _=>zf5 g.same,zbc (zf5 g.same),fun _=>zaz (zbc (zf5 g.same)) (fun _=>rfl),rfl⟩
 all_goals cases h
theorem zjP:∀n,zaQ cl G k (zrY G n)
 | 0=>fun _ _ _ _ _ _ _ _ h=>by cases h
 | n+1=>zly (zjP n)
end
noncomputable def zkc(X:Cx)(E:St->XK):Prop:=∀(C:Addr) (pins:Z3) (σ:St) (H:Hp) (s:Shared) (e:Addr) (h':Heap) (vs:List Value),Inv X pins σ H s->Heap.MadeExcOf s.heap h' e (.ref C) vs->E σ (.ref C) none H->X.xe (.ref e) { s with heap:=h' }
noncomputable def zmS(C:Addr)(E:St->XK)(t:TA):TS:=fun _ σ H=>t σ H fun vs H1=>vs.length<=sizeLine/\E σ (.ref C) none H1
theorem ziN(hr:zkc X E)(hc:X.calm=true)(hg:Gl X x)(hm:X.mg x=some (.ref C))
  (z:PySem.W.excIn X.K C bmV "ValueError.__new__" = true) (ha:PA X (e::es) t)
  (he:starEach (e::es) X.env=(false,eval e X.env)::starEach es X.env) (hpl:(backTo cpos (starEach es X.env)).any (·.1)=false) (hdb:(x == ("__debug__":Str))=false) :
  PS X (.Raise (some (.Call (.Name x np) (e::es) [] cpos)) none pos) (zmS C E t):=by
 intro pins s σ H D I h;obtain ⟨bm,N,nm,qn,bs,hd,sn,sub,ab,col,dd,c0,c1,c2,c3,c5,mN,o1,o2,o3,o4⟩:=zgk I.mod.kin z
 refine wpAny_Raise_call_subU (C:=C) (nm:=nm) (q:=qn) (N:=N) (bs:=bs) (bm:=bm) (hdct:=hd) (sn:=sn) (sub:=sub) (ab:=ab) (col:=col) (dd:=dd) (k0:=c0) (k1:=c1) (k2:=c2) (k3:=c3) (k5:=c5)
  ycb (by decide +kernel) ycb (mN:=mN) (o4.hasType ycb.hasBase) (I.ok.hd hc) (by rw [he];show (false||(backTo cpos (starEach es X.env)).any (·.1))=false;rw [hpl];rfl) o3 (zbQ I hg hm ⟨rfl,?_⟩ hdb)
 have go:=ha cpos pins s σ H _ I h;rw [he] at go ⊢;exact ycc (thn go fun us s2 ⟨vs,H2,I2,r2,q1,q2⟩=>⟨rfl,by rw [<-r2.length];exact q1,I2.bk _ _ o1,o2.keeps I2.bk,o4.keeps I2.bk,fun h' a mk=>hr C pins σ H2 s2 a h' us I2 mk q2⟩)
def sRz(c:Str)(fs:List Fe):Fs:=fun ρ S=>match zag fs ρ S with | .ok ds S'=>if small ds.length then .ex c ρ S' else .bad | .exc x S'=>.ex x ρ S' | .bad=>.bad
noncomputable def zlX(X:Cx)(pins:Z3)(E:St->XK):Cx:={ X with pn:=X.pn++pins,xe:=fun e s'=>∃σ H1 s1,Inv X pins σ H1 s1/\CXE X.prog X.w X.stack H1 s1 (E σ) e s' }
section
variable{X:Cx}{pins:Z3}{σ:St}{H:Hp}{s:Shared}{E:St->XK}
def zqa(ok:X.Ok):(zlX X pins E).Ok :=
 ⟨ok.mod,ok.kind,ok.glob,ok.blt,ok.above,ok.inj,ok.has,ok.cab,ok.hd,ok.frames,ok.stk,ok.exf,ok.bs,ok.bsz,ok.noex,ok.exfs,ok.funs,ok.frf⟩
def zk1(ok:(zlX X pins E).Ok):X.Ok :=
 ⟨ok.mod,ok.kind,ok.glob,ok.blt,ok.above,ok.inj,ok.has,ok.cab,ok.hd,ok.frames,ok.stk,ok.exf,ok.bs,ok.bsz,ok.noex,ok.exfs,ok.funs,ok.frf⟩
def zod(I:Inv X pins σ H s):Inv (zlX X pins E) [] σ H s :=
 ⟨zqa I.ok,I.os,I.bare,I.base,I.loc,I.cell,I.free,I.freeC,fun p hp=>I.pin p (by simpa [zlX] using hp),I.hok,I.len⟩
def zbq{pins':Z3}(I:Inv (zlX X pins E) pins' σ H s):Inv X pins σ H s :=
 ⟨zk1 I.ok,I.os,I.bare,I.base,I.loc,I.cell,I.free,I.freeC,fun p hp=>I.pin p (ycP _ hp),I.hok,I.len⟩
def zkq{De:Ends}{f:Flow}(h:SP (zlX X pins E) [] De f s):SP X pins De f s:=by
 cases f with
 | next=>obtain ⟨σ',H',I,q⟩:=h;exact ⟨σ',H',zbq I,q⟩
 | brk=>obtain ⟨σ',H',I,q⟩:=h;exact ⟨σ',H',zbq I,q⟩
 | cont=>obtain ⟨σ',H',I,q⟩:=h;exact ⟨σ',H',zbq I,q⟩
 | ret u=>obtain ⟨v,σ',H',I,r,q⟩:=h;exact ⟨v,σ',H',zbq I,r,q⟩
end
noncomputable def zrA(K:PySem.W.Frag)(C:Addr)(i:Nat)(th:TS)(De:Ends):St->XK:=fun σ cls _ H'=>∃C',cls=.ref C'/\zlQ K C' C/\∀a ob,H' a=none->ob.cls=.ref C'->th (De.goes i) (σ.set i (some (.ref a))) (upd H' a (.frz ob (.own a)))
def ziL{X:Cx}{body:List Stmt}{b0:Stmt}{suite:List Stmt}{c n:Str}{C:Addr}{i:Nat}{bD:List Value}{iD:String}{tb:(St->XK)->TS}{th:TS}{np hpos pos:Pos}(hs:X.stack=X.env::X.outer)(hf:X.env.frame=some X.env.locals)(hN:X.N.Nodup)(hi:X.N[i]?=some n)
  (hk:X.env.scope.names.lookup n=some .local) (hg:Gl X c) (hm:X.mg c=some (.ref C)) (z:PySem.W.excIn X.K C bD iD=true) (hb:bD.contains (.type "BaseException")=true) (h1:∀pins E,PSs (zlX X pins E) body (tb E)) (h2:∀a,PSs (X.inH a) (b0::suite) th) (hdb:(c == ("__debug__":Str))=false) :
  PS X (.Try body [.ExceptHandler (some (.Name c np)) (some n) (b0::suite) hpos] [] [] pos) (fun De σ H=>tb (zrA X.K C i th De) De σ H):=by
 intro pins s σ H D I h
 have hfr:X.A.frames=some (X.env::X.outer):=by rw [<-hs];exact I.ok.frames
 refine wpAny_Try_except (ybb (h1 pins (zrA X.K C i th D) [] s σ H D (zod I) h) (fun f s1 q=>?_) fun e s1 q=>?_)
 ·have q':=zkq q
  cases f with
  | next=>exact ycm q'
  | ret v=>exact q'
  | brk=>exact q'
  | cont=>exact q'
 ·obtain ⟨σ1,H1,s2,I1,a,cls,a0,H',B,rfl,fl,c1,c2,c3,os,bare,un,hok,C',rfl,⟨⟨bC,iC,zC⟩,up⟩,q⟩:=q;have fl':=fl;rw [hs] at fl';refine wpAny_looks_onW hfr hf fl' fun h4 hd4 u4=>?_
  refine wpAny_landsW hd4 fun h5 fl5 u5=>?_
  rw [<-hs] at fl5;obtain ⟨I5,ob5,oc5,og5,_,_⟩:=zee (s':=s1) I1 fl5 (u4.trans u5) c1 c2 c3 os bare un hok;refine wpAny_handleBy_cons (codeAny_handlers_test ?_) (by intro q;cases q);refine zbQ (I5.inH a) hg hm ?_ hdb;refine zez I5.kIn zC z og5 oc5 hb up ?_;refine codeAny_handlers_suite_as ?_;refine lands_againW fl5 fun h6 fl6 u6=>?_
  obtain ⟨_,ob,oc,og,na,I6⟩:=zee (s':=s1) I1 fl6 ((u4.trans u5).trans u6) c1 c2 c3 os bare un hok;refine zbt (v:=.ref a) I6 hN hi (.inl hk) rfl (fun s7 I7=>?_) (.inr hk);exact ybb (h2 a pins s7 _ _ (D.goes i) (I7.inH a) (q a ob na oc)) (fun f s8 q8=>zm9 I.ok hN hi hk q8) fun _ _ z=>z.elim
noncomputable def zsz(und:Str->Str->Bool)(C:Str)(i j:Nat)(fb:Fs):Fs:=fun ρ S=>match fb ρ S with
 | .ex c ρ' S'=>if und c C&&decide (i<ρ'.length) then .nx ((ρ'.set j (some (false,.exc c))).set i none) S' else .bad
 | o=>o
def Rel.clear{cl:Cf}{B:Base}{σ:St}{w:Wd}{ρ:Env}{S:Sto}(R:Rel cl B σ w ρ S)(i:Nat):Rel cl B (σ.set i none) w (ρ.set i none) S where
 wd:=R.wd
 len:=by rw [yaD,yaD];exact R.len
 slots:=fun j o e hj=>by
  by_cases hij:i=j
  ·subst hij
   have hlt:i<ρ.length:=by
    have:=(yai.mp hj).1;rwa [yaD] at this
   rw [yay hlt] at hj;cases hj
  ·rw [yaQ hij] at hj ⊢;exact R.slots j o e hj
section
variable{X:Cx}{cl:Cf}{E:St->XK}{own:Bool}
def zkn{K:PySem.W.Frag}{und:Str->Str->Bool}{C:Str}{i j:Nat}{fb:Fs}(hij:i≠j)(hu:∀c,und c C=true->zlQ K (cl c) (cl C)){De:Ends}{σ:St}{H:Hp}(q:tS cl E own (zsz und C i j fb) De σ H) :
  tS cl (zrA K (cl C) i (zmV (zuv i) (zhS j)) De) own fb De σ H:=by
 obtain ⟨B,w,ρ,S,rfl,R,q⟩:=q;refine ⟨B,w,ρ,S,rfl,R,?_⟩;unfold zsz at q;have hl:ρ.length=σ.length:=R.len.symm
 cases hf:fb ρ S with
 | nx ρ' S'=>rwa [hf] at q
 | bk ρ' S'=>rwa [hf] at q
 | ct ρ' S'=>rwa [hf] at q
 | rt d S'=>rwa [hf] at q
 | bad=>rwa [hf] at q
 | ex c ρ' S' =>
  rw [hf] at q;dsimp only at q
  cases hc:und c C&&decide (i<ρ'.length) with
  | false=>rw [hc,if_neg (by decide)] at q;exact q.elim
  | true =>
   rw [hc,if_pos rfl] at q;rw [yab] at hc;intro σ' w' R' F';refine ⟨cl c,rfl,hu c hc.1,fun a ob ha hob=>?_⟩;have g:=zah (w:=w') ha (.frz ob (.own a));have sh:Shd cl (w'.add a (.frz ob (.own a))) (.ref a) (.exc c):=.exc zdM zcc hob
   have hi':i<σ'.length:=by rw [R'.len];exact yal hc.2
   refine ⟨.ref a,yay hi',?_⟩;have R2:=((R'.grow g).put (i:=j) sh).clear i;refine q _ (w'.add a (.frz ob (.own a))) ?_ (F'.trans g.fut)
   have e:((σ'.set i (some (V.ref a))).set j (some (.ref a))).set i none=(σ'.set j (some (V.ref a))).set i none:=by
    rw [List.set_comm _ _ hij,List.set_set]
   show Rel cl B (((σ'.set i (some (V.ref a))).set j (some (.ref a))).set i none) _ _ _;rw [e];exact R2
end
noncomputable def Base.hold(B:Base)(p:Addr)(o:HO):Base:=⟨fun a=>if a=p then some o else B.Fr a,fun a=>if a=p then some .far else B.fw a⟩
noncomputable def Wd.claim(w:Wd)(p:Addr)(r:Root):Wd:=⟨w.H,fun a=>if a=p then some r else if w.ow a=some r then some .far else w.ow a,w.mu⟩
section
variable{cl:Cf}{B:Base}{σ:St}{w:Wd}{ρ:Env}{S:Sto}
theorem Rel.hold(R:Rel cl B σ w ρ S)(hp:w.H p=none):Rel cl (B.hold p o) σ (w.addAs p o .far) ρ S:=by
 have ff:=zaE (w:=w) (p:=p) (o:=o) (r:=.far) hp
 have kp:∀a u,w.H a=some u->(w.addAs p o .far).H a=some u/\(w.addAs p o .far).ow a=w.ow a:=fun a u ha=>by
  have n:a≠p:=zam ha hp;refine ⟨?_,?_⟩
  ·show upd w.H p o a=_;rw [zad n];exact ha
  ·show (if a=p then _ else if w.ow a=some Root.far then some Root.far else w.ow a)=_;rw [if_neg n];split
   ·rename_i e;exact e.symm
   ·rfl
 refine ⟨⟨fun a u h=>?_,fun a r h=>?_,R.wd.len,fun n ob h=>?_,R.wd.tab.keep ff fun P ps h1 h2=>⟨(kp P _ h1).1,(kp P _ h1).2.trans h2⟩⟩,R.len,fun j b e hj=>?_⟩
 ·by_cases ha:a=p
  ·subst ha;have h':(if a=a then some o else B.Fr a)=some u:=h;rw [if_pos rfl] at h';cases h';exact ⟨zaj,by show (if a=a then some Root.far else _)=(if a=a then some Root.far else _);rw [if_pos rfl,if_pos rfl]⟩
  ·have h':(if a=p then some o else B.Fr a)=some u:=h;rw [if_neg ha] at h';have:=kp a u (R.wd.fr a u h').1;refine ⟨this.1,this.2.trans ?_⟩;show _=(if a=p then some Root.far else B.fw a);rw [if_neg ha];exact (R.wd.fr a u h').2
 ·by_cases ha:a=p
  ·have h':(if a=p then some Root.far else if w.ow a=some Root.far then some Root.far else w.ow a)=some r:=h;rw [if_pos ha] at h';cases h';exact .inl rfl
  ·have h':(if a=p then some Root.far else if w.ow a=some Root.far then some Root.far else w.ow a)=some r:=h;rw [if_neg ha] at h';split at h'
   ·cases h';exact .inl rfl
   ·rcases R.wd.own a r h' with z | z
    ·exact .inl z
    ·refine .inr ?_;show (if a=p then some o else B.Fr a)=none;rw [if_neg ha];exact z
 ·obtain ⟨a,e,x⟩:=R.wd.obj n ob h;exact ⟨a,e,x.keep ff fun b u hb _=>kp b u hb⟩
 ·obtain ⟨v,e1,x⟩:=R.slots j b e hj;exact ⟨v,e1,x.keep ff fun a u ha hr=>⟨(kp a u ha).1,(kp a u ha).2.trans hr⟩⟩
def Rel.unhold(R:Rel cl (B.hold p o) σ w ρ S)(hB:B.Fr p=none):Rel cl B σ w ρ S:=by
 refine ⟨⟨fun a u h=>?_,fun a r h=>?_,R.wd.len,R.wd.obj,R.wd.tab⟩,R.len,R.slots⟩
 ·have na:a≠p:=fun z=>by rw [z,hB] at h;cases h
  have h2:=R.wd.fr a u (show (if a=p then some o else B.Fr a)=some u by rw [if_neg na];exact h);exact ⟨h2.1,h2.2.trans (show (if a=p then some Root.far else B.fw a)=_ from if_neg na)⟩
 ·rcases R.wd.own a r h with z | z
  ·exact .inl z
  ·have z':(if a=p then some o else B.Fr a)=none:=z;split at z'
   ·cases z'
   ·exact .inr z'
def zdx(h:w.ow p≠none):Fut w (w.claim p r) where
 keep:=fun a u ha hk=>by
  have n:a≠p:=fun z=>h (by rw [<-z];exact hk)
  refine ⟨ha,?_⟩;show (if a=p then some r else if w.ow a=some r then some Root.far else w.ow a)=none;rw [if_neg n,if_neg (by rw [hk];exact fun z=>by cases z)];exact hk
 mu:=fun _ _ h=>h
theorem Rel.claim(R:Rel cl (B.hold p o) σ w ρ S)(hB:B.Fr p=none)(t:Top cl w o d):Rel cl B (σ.set i (some (.ref p))) (w.claim p (.slot i)) (ρ.set i (some (true,d))) S:=by
 have hp:=R.wd.fr p o (show (if p=p then some o else B.Fr p)=some o from if_pos rfl);have hfar:w.ow p=some .far:=hp.2.trans (show (if p=p then some Root.far else B.fw p)=_ from if_pos rfl);have ff:=zdx (w:=w) (p:=p) (r:=.slot i) (by rw [hfar];exact yat _)
 have kp:∀a u,w.H a=some u->w.ow a≠some .far->w.ow a≠some (.slot i)->(w.claim p (.slot i)).H a=some u/\(w.claim p (.slot i)).ow a=w.ow a:=fun a u ha hk hk2=>by
  have n:a≠p:=fun z=>hk (by rw [z];exact hfar)
  refine ⟨ha,?_⟩;show (if a=p then _ else if w.ow a=some (Root.slot i) then some Root.far else w.ow a)=_;rw [if_neg n,if_neg hk2]
 refine ⟨⟨fun a u h=>?_,fun a r h=>?_,R.wd.len,fun n ob h=>?_,R.wd.tab.keep ff fun P ps h1 h2=>⟨(kp P _ h1 (by rw [h2];simp) (by rw [h2];simp)).1,(kp P _ h1 (by rw [h2];simp) (by rw [h2];simp)).2.trans h2⟩⟩,by rw [yaD,yaD];exact R.len,fun j b e hj=>?_⟩
 ·have na:a≠p:=fun z=>by rw [z,hB] at h;cases h
  have h2:=R.wd.fr a u (show (if a=p then some o else B.Fr a)=some u by rw [if_neg na];exact h);have h3:w.ow a=B.fw a:=h2.2.trans (show (if a=p then some Root.far else B.fw a)=_ from if_neg na)
  have hne:w.ow a≠some (.slot i):=fun z=>by
   rcases R.wd.own a _ z with y | y
   ·cases y
   ·have y':(if a=p then some o else B.Fr a)=none:=y;rw [if_neg na,h] at y';cases y'
  refine ⟨h2.1,?_⟩;show (if a=p then some (Root.slot i) else if w.ow a=some (Root.slot i) then some Root.far else w.ow a)=_;rw [if_neg na,if_neg hne];exact h3
 ·have h':(if a=p then some (Root.slot i) else if w.ow a=some (Root.slot i) then some Root.far else w.ow a)=some r:=h;split at h'
  ·rename_i e;rw [e];exact .inr hB
  ·rename_i na;split at h'
   ·cases h';exact .inl rfl
   ·rcases R.wd.own a r h' with z | z
    ·exact .inl z
    ·have z':(if a=p then some o else B.Fr a)=none:=z;rw [if_neg na] at z';exact .inr z'
 ·obtain ⟨a,e,x⟩:=R.wd.obj n ob h;exact ⟨a,e,x.keep ff fun b u hb hn=>kp b u hb (fun z=>by rwa [z] at hn) (fun z=>by rwa [z] at hn)⟩
 ·by_cases hij:i=j
  ·subst hij
   have hlt:i<ρ.length:=by
    have:=(yai.mp hj).1;rwa [yaD] at this
   rw [yay hlt] at hj;cases hj;exact ⟨.ref p,by rw [yay (by rw [R.len];exact hlt)],p,o,rfl,if_pos rfl,hp.1,t.up ff⟩
  ·rw [yaQ hij] at hj ⊢;obtain ⟨v,e1,x⟩:=R.slots j b e hj;refine ⟨v,e1,x.keep ff fun a u ha hr=>?_⟩;have:=kp a u ha (by rw [hr];exact fun z=>by cases z) (by rw [hr];exact fun z=>hij (by cases z;rfl));exact ⟨this.1,this.2.trans hr⟩
end
noncomputable def tO(cl:Cf)(E:St->XK):Bool->Fe->TE | true,f=>tN cl E f | false,f=>tE cl E f
noncomputable def zrF(i j:Nat)(o1:Bool)(f1:Fe)(o2:Bool)(f2:Fe):Fs:=fun ρ S=>match f1 ρ S with
 | .ok d1 S1=>(match f2 ρ S1 with
  | .ok d2 S2=>.nx ((ρ.set i (some (o1,d1))).set j (some (o2,d2))) S2
  | .exc c S'=>.ex c ρ S'
  | .bad=>.bad)
 | .exc c S'=>.ex c ρ S'
 | .bad=>.bad
section
variable{X:Cx}{cl:Cf}{E:St->XK}{own:Bool}
def zkW(q:tS cl E own (zrF i j o1 f1 o2 f2) De σ H):zuw i j (zmT (tO cl E o1 f1) (zmT (tO cl E o2 f2) zrC)) De σ H:=by
 obtain ⟨B,w,ρ,S,rfl,R,q⟩:=q;unfold zrF at q
 cases o1 with
 | false =>
  refine ⟨B,w,ρ,S,rfl,R,?_⟩
  cases h1:f1 ρ S with
  | bad=>rwa [h1] at q
  | exc c S1=>rw [h1] at q;exact fun w' R' F'=>q σ w' R' F'
  | ok d1 S1 =>
   rw [h1] at q;dsimp only at q;intro v w1 R1 F1 sh1
   cases o2 with
   | false =>
    refine ⟨B,w1,ρ,S1,rfl,R1,?_⟩
    cases h2:f2 ρ S1 with
    | bad=>rwa [h2] at q
    | exc c S2=>rw [h2] at q;exact fun w' R' F'=>q σ w' R' (F1.trans F')
    | ok d2 S2 =>
     rw [h2] at q;intro v2 w2 R2 F2 sh2;exact ⟨v,v2,rfl,q _ w2 ((R2.put (sh1.up F2)).put sh2) (F1.trans F2)⟩
   | true =>
    refine ⟨B,w1,ρ,S1,rfl,R1,?_⟩
    cases h2:f2 ρ S1 with
    | bad=>rwa [h2] at q
    | exc c S2=>rw [h2] at q;exact fun w' R' F'=>q σ w' R' (F1.trans F')
    | ok d2 S2 =>
     rw [h2] at q;intro p2 u2 w2 R2 F2 hp2 t2;exact ⟨v,.ref p2,rfl,q _ (w2.addAs p2 u2 (.slot j)) ((R2.put (sh1.up F2)).own hp2 t2) (F1.trans (F2.trans (zaE hp2)))⟩
 | true =>
  refine ⟨B,w,ρ,S,rfl,R,?_⟩
  cases h1:f1 ρ S with
  | bad=>rwa [h1] at q
  | exc c S1=>rw [h1] at q;exact fun w' R' F'=>q σ w' R' F'
  | ok d1 S1 =>
   rw [h1] at q;dsimp only at q;intro p u w1 R1 F1 hp t1;have Rh:=R1.hold (o:=u) hp;have fa:=zaE (w:=w1) (p:=p) (o:=u) (r:=.far) hp
   have hB:B.Fr p=none:=by
    cases z:B.Fr p with
    | none=>rfl
    | some x=>have:=(R1.wd.fr p x z).1;rw [hp] at this;cases this
   cases o2 with
   | false =>
    refine ⟨B.hold p u,w1.addAs p u .far,ρ,S1,rfl,Rh,?_⟩
    cases h2:f2 ρ S1 with
    | bad=>rwa [h2] at q
    | exc c S2=>rw [h2] at q;exact fun w' R' F'=>q σ w' (R'.unhold hB) (F1.trans (fa.trans F'))
    | ok d2 S2 =>
     rw [h2] at q;intro v2 w2 R2 F2 sh2;have hpp:=R2.wd.fr p u (show (if p=p then some u else B.Fr p)=some u from if_pos rfl)
     have hfar:w2.ow p≠none:=by rw [hpp.2,show (B.hold p u).fw p=some Root.far from if_pos rfl];exact yat _
     have fc:=zdx (w:=w2) (p:=p) (r:=.slot i) hfar;exact ⟨.ref p,v2,rfl,q _ (w2.claim p (.slot i)) ((R2.claim hB (t1.up (fa.trans F2))).put (sh2.up fc)) (F1.trans (fa.trans (F2.trans fc)))⟩
   | true =>
    refine ⟨B.hold p u,w1.addAs p u .far,ρ,S1,rfl,Rh,?_⟩
    cases h2:f2 ρ S1 with
    | bad=>rwa [h2] at q
    | exc c S2=>rw [h2] at q;exact fun w' R' F'=>q σ w' (R'.unhold hB) (F1.trans (fa.trans F'))
    | ok d2 S2 =>
     rw [h2] at q;intro p2 u2 w2 R2 F2 hp2 t2;have hpp:=R2.wd.fr p u (show (if p=p then some u else B.Fr p)=some u from if_pos rfl)
     have hfar:w2.ow p≠none:=by rw [hpp.2,show (B.hold p u).fw p=some Root.far from if_pos rfl];exact yat _
     have fc:=zdx (w:=w2) (p:=p) (r:=.slot i) hfar;exact ⟨.ref p,.ref p2,rfl,q _ ((w2.claim p (.slot i)).addAs p2 u2 (.slot j)) ((R2.claim hB (t1.up (fa.trans F2))).own (w:=w2.claim p (.slot i)) hp2 (t2.up fc)) (F1.trans (fa.trans (F2.trans (fc.trans (zaE (w:=w2.claim p (.slot i)) hp2)))))⟩
end
noncomputable def zdu:Expr->Bool | .ListComp _ _ _ _=>true | .SetComp _ _ _ _=>true | .DictComp _ _ _ _ _=>true | _=>false
def zcn(h:zdu e=false):swapsWith e t l env=pure false:=by
 cases e<;>first | rfl | cases h
structure Gd(cl:Cf)(G:Genv)(k:Nat)(X:Cx)(nm:Names)(N:List Str)(E:St->XK)(full:Bool):Prop where
 gx:Gx cl G k X nm N E
 fn:∀x,X.fn x=true
 kind:X.env.scope.kind=.function
 sc:X.env.scope.names=nm
 own:full=true->PassesOwn (model X.prog X.w) X.A X.env X.xe
 raises:full=true->zkc X E
 stk:X.stack=X.env::X.outer
 frm:X.env.frame=some X.env.locals
def zby:Nat->Names->List Str->Expr->List Nat
 | 0,_,_,_=>[]
 | n+1,nm,N,e =>
  let rc:=zby n nm N
  let op:=fun (e:Expr)=>match e with | .Name _ _=>[] | e=>rc e
  match e with
  | .Name x _=>(za3 nm N x).toList
  | .Tuple es _ _=>es.flatMap rc
  | .List es _=>es.flatMap rc
  | .BinOp a _ b _=>op a++op b
  | .UnaryOp _ a _=>rc a
  | .BoolOp _ es _=>es.flatMap rc
  | .Compare a _ bs _=>op a++bs.flatMap op
  | .IfExp c a b _=>rc c++rc a++rc b
  | .Subscript a (.Slice lo hi _ _) _=>op a++lo.toList.flatMap op++hi.toList.flatMap op
  | .Subscript a i _=>op a++op i
  | .Call (.Name f _) args [] _=>if (zj4 f).isSome||decide (f = "isinstance") then args.flatMap op else args.flatMap rc
  | .Call (.Attribute o _ _) args [] _=>op o++args.flatMap rc
  | .Dict _ _ _=>[]
  | .Attribute o _ _=>op o
  | .ListComp _ [g] scope _=>rc g.iter++(zaP scope.names N).map (·.2)
  | _=>[]
def ze4(t:Tg)(f:Fe):Fs:=fun ρ S=>match f ρ S with
 | .ok d S'=>(match t.put ρ d with | some ρ'=>.nx ρ' S' | none=>.bad)
 | .exc c S'=>.ex c ρ S'
 | .bad=>.bad
noncomputable def zkX(nm:Names)(x y:Str)(px py:Pos)(a b:Expr):Bool :=
 decide (nm.lookup x=some .local)&&decide (nm.lookup y=some .local)&&decide (px.line=py.line)&&!decide (x=y)&&zaB a&&zaB b&&!([a,b].all (foldedForSure 8))&&!([a,b].all (constantsAlone 8))
noncomputable def zmt:Expr->Bool | .Constant _ _ _=>true | _=>false
noncomputable def zvB:Expr->Bool | .Name _ _=>true | .Constant _ _ _=>true | .Subscript _ _ _=>true | .BinOp _ _ _ _=>true | _=>false
noncomputable def zon:Expr->Option (List (Option Expr)×List Expr×Pos) | .Dict ks vs p=>some (ks,vs,p) | _=>none
def zlw(h:zon e=some x):e=.Dict x.1 x.2.1 x.2.2:=by cases e<;>first | (cases h;done) | (cases h;rfl)
def zgh(e:Expr):Bool:=match zon e with | some x=>x.1.isEmpty&&x.2.1.isEmpty | none=>false
def zlx(h:zgh e=true):∃p,e=.Dict [] [] p:=by
 unfold zgh at h
 cases h1:zon e with
 | none=>rw [h1] at h;cases h
 | some x =>
  rw [h1] at h;dsimp only at h;rw [yab,ybm,ybm] at h;exact ⟨_,by rw [zlw h1,h.1,h.2]⟩
noncomputable def zmi{α:Type}:List α->Option α | [a]=>some a | _=>none
def zd2{α:Type}{l:List α}{a:α}(h:zmi l=some a):l=[a]:=by
 cases l with
 | nil=>cases h
 | cons b t=>cases t with
  | nil=>cases h;rfl
  | cons _ _=>cases h
noncomputable def zcN:Expr->Option (Str×Pos) | .Name x p=>some (x,p) | _=>none
def za2(h:zcN e=some x):e=.Name x.1 x.2:=by cases e<;>first | (cases h;done) | (cases h;rfl)
noncomputable def zou:Expr->Option (Expr×List Expr×List Keyword×Pos) | .Call f a k p=>some (f,a,k,p) | _=>none
def zhj(h:zou e=some x):e=.Call x.1 x.2.1 x.2.2.1 x.2.2.2:=by cases e<;>first | (cases h;done) | (cases h;rfl)
noncomputable def zoO:Expr->Option (Expr×Str×Pos) | .Attribute o m p=>some (o,m,p) | _=>none
def zgu(h:zoO e=some x):e=.Attribute x.1 x.2.1 x.2.2:=by cases e<;>first | (cases h;done) | (cases h;rfl)
noncomputable def zvH:Stmt->Option (List Expr×Expr×Pos) | .Assign t e p=>some (t,e,p) | _=>none
def zoz(h:zvH e=some x):e=.Assign x.1 x.2.1 x.2.2:=by cases e<;>first | (cases h;done) | (cases h;rfl)
noncomputable def zoI:Expr->Option (List Expr×Nat×Pos) | .Tuple es k p=>some (es,k,p) | _=>none
def zf1(h:zoI e=some x):e=.Tuple x.1 x.2.1 x.2.2:=by cases e<;>first | (cases h;done) | (cases h;rfl)
noncomputable def zuB:Expr->Option (Expr×Expr×Pos) | .Subscript a i p=>some (a,i,p) | _=>none
def zmW(h:zuB e=some x):e=.Subscript x.1 x.2.1 x.2.2:=by cases e<;>first | (cases h;done) | (cases h;rfl)
noncomputable def lcE:Expr->Option (Expr×List Comprehension×Scope×Pos) | .ListComp elt gs scope p=>some (elt,gs,scope,p) | _=>none
def zqs(h:lcE e=some x):e=.ListComp x.1 x.2.1 x.2.2.1 x.2.2.2:=by cases e<;>first | (cases h;done) | (cases h;rfl)
noncomputable def zse{α:Type}:List α->Option (α×α) | [a,b]=>some (a,b) | _=>none
def zlW{α:Type}{l:List α}{a:α×α}(h:zse l=some a):l=[a.1,a.2]:=by
 cases l with
 | nil=>cases h
 | cons b t=>cases t with
  | nil=>cases h
  | cons c t=>cases t with
   | nil=>cases h;rfl
   | cons _ _=>cases h
def ztF(G:Genv)(rc:Rec)(nm:Names)(N:List Str)(x:Str)(e:Expr):Option Fs :=
 (tgI true nm N N.length x).bind fun i=>match lcE e with
  | some c=>(zmi c.2.1).bind fun g=>(zhW G rc nm N c.1 g c.2.2.1).bind fun f=>some (zbL i true f)
  | none=>if zdu e then none else (rc nm N e).bind fun p=>some (zbL i p.1 p.2)
noncomputable def l2N:List Expr->Option ((Str×Pos)×Str×Pos) | [.Name x p,.Name y q]=>some ((x,p),y,q) | _=>none
def zqv(h:l2N l=some x):l=[.Name x.1.1 x.1.2,.Name x.2.1 x.2.2]:=by
 unfold l2N at h;split at h
 ·cases h;rfl
 ·cases h
noncomputable def l3N:List Expr->Option ((Str×Pos)×(Str×Pos)×Str×Pos) | [.Name z r,.Name x p,.Name y q]=>some ((z,r),(x,p),y,q) | _=>none
def zqu(h:l3N l=some x):l=[.Name x.1.1 x.1.2,.Name x.2.1.1 x.2.1.2,.Name x.2.2.1 x.2.2.2]:=by
 unfold l3N at h;split at h
 ·cases h;rfl
 ·cases h
noncomputable def a2E:List Expr->Option (Expr×Pos) | [a,.List [] p]=>some (a,p) | _=>none
def zrr(h:a2E l=some x):l=[x.1,.List [] x.2]:=by
 unfold a2E at h;split at h
 ·cases h;rfl
 ·cases h
noncomputable def a3E:List Expr->Option (Expr×Expr×Pos) | [a,b,.List [] p]=>some (a,b,p) | _=>none
def zrq(h:a3E l=some x):l=[x.1,x.2.1,.List [] x.2.2]:=by
 unfold a3E at h;split at h
 ·cases h;rfl
 ·cases h
def zoG(rc:Rec)(nm:Names)(N:List Str)(ts vs:List Expr):Option Fs:=(l2N ts).bind fun x=>(a2E vs).bind fun c=>(tgI true nm N N.length x.1.1).bind fun i=>(tgI true nm N N.length x.2.1).bind fun j=>(rc nm N c.1).bind fun p=>if p.1 then some (znr i j p.2) else none
def zoF(rc:Rec)(nm:Names)(N:List Str)(ts vs:List Expr):Option Fs:=(l3N ts).bind fun x=>(a3E vs).bind fun c=>(tgI true nm N N.length x.1.1).bind fun h=>(tgI true nm N N.length x.2.1.1).bind fun i=>(tgI true nm N N.length x.2.2.1).bind fun j=>(shE rc nm N c.1).bind fun f=>(rc nm N c.2.1).bind fun p=>if p.1 then some (zns h i j f p.2) else none
def zvI(rc:Rec)(nm:Names)(N:List Str)(t:List Expr×Nat×Pos)(vs:List Expr)(e:Expr):Option Fs:=match zoG rc nm N t.1 vs with
 | some f=>some f
 | none=>match zoF rc nm N t.1 vs with
  | some f=>some f
  | none=>(tgG true nm N N.length (.Tuple t.1 t.2.1 t.2.2)).bind fun t=>(shE rc nm N e).bind fun f=>some (ze4 t f)
def ztE(rc:Rec)(nm:Names)(N:List Str)(t:List Expr×Nat×Pos)(e:Expr):Option Fs:=match zoI e with
 | some v=>if ztw nm t.1 then zvI rc nm N t v.1 e else (zse t.1).bind fun xy=>(zcN xy.1).bind fun x=>(zcN xy.2).bind fun y=>(zse v.1).bind fun ab =>
  if zkX nm x.1 y.1 x.2 y.2 ab.1 ab.2 then (tgI true nm N N.length x.1).bind fun i=>(tgI true nm N N.length y.1).bind fun j=>if i=j then none else (rc nm N ab.1).bind fun p=>(rc nm N ab.2).bind fun q=>some (zrF i j p.1 p.2 q.1 q.2)
  else if zmt ab.1&&zmt ab.2 then (tgG true nm N N.length (.Tuple t.1 t.2.1 t.2.2)).bind fun t=>(shE rc nm N e).bind fun f=>some (ze4 t f) else none
 | none=>(tgG true nm N N.length (.Tuple t.1 t.2.1 t.2.2)).bind fun t=>(shE rc nm N e).bind fun f=>some (ze4 t f)
def ztI(G:Genv)(rc:Rec)(nm:Names)(N:List Str)(o:Expr)(f:Str)(e:Expr):Option Fs :=
 (nmF o).bind fun x=>if zgh e then (if G.ob.df f&&G.ob.fk G.ob.cur f then (za3 nm N x.1).map fun i=>znu G.ob.cur f i else none) else (if G.ob.df f||!G.ob.fk G.ob.cur f then none else (shE rc nm N o).bind fun fo=>(shE rc nm N e).bind fun fe=>some (znt G.ob.cur f fo fe))
def ztG(G:Genv)(rc:Rec)(nm:Names)(N:List Str)(o:Expr)(f:Str)(ix e:Expr):Option Fs :=
 if zeC o&&G.ob.df f&&!zdu e&&G.ob.fk G.ob.cur f then (nmF ix).bind fun x=>(za3 nm N x.1).bind fun i=>(shE rc nm N o).bind fun fo=>(shE rc nm N e).bind fun fe=>some (znq G.ob.cur f fo i fe) else none
def ztH(rc:Rec)(nm:Names)(N:List Str)(x:Str)(ix e:Expr):Option Fs :=
 if zvB ix&&!zdu e then (za3 nm N x).bind fun i=>(opE rc nm N ix).bind fun fi=>(shE rc nm N e).bind fun f=>some (znp i fi f) else none
def ztJ(rc:Rec)(nm:Names)(N:List Str)(x:Str)(ix e:Expr):Option Fs :=
 if zvB ix&&!zdu e then (za3 nm N x).bind fun i=>(shE rc nm N ix).bind fun k=>(shE rc nm N e).bind fun f=>some (zkz i k f) else none
def zrp(G:Genv)(rc:Rec)(nm:Names)(N:List Str)(q:Expr×Expr×Pos)(e:Expr):Option Fs:=match zoO q.1 with
 | some a=>ztG G rc nm N a.1 a.2.1 q.2.1 e
 | none=>(zcN q.1).bind fun x=>if G.ds x.1 then ztJ rc nm N x.1 q.2.1 e else ztH rc nm N x.1 q.2.1 e
def zr1(G:Genv)(rc:Rec)(nm:Names)(N:List Str)(tg e:Expr):Option Fs:=match zcN tg with
 | some x=>ztF G rc nm N x.1 e
 | none=>match zoI tg with
  | some t=>ztE rc nm N t e
  | none=>match zoO tg with
   | some a=>ztI G rc nm N a.1 a.2.1 e
   | none=>(zuB tg).bind fun q=>zrp G rc nm N q e
structure Mc where
 x:Str
 px:Pos
 m:Str
 ap:Pos
 a:Expr
 cp:Pos
def zjd(e:Expr):Option Mc:=(zou e).bind fun c=>if c.2.2.1.isEmpty then (zoO c.1).bind fun t=>(zcN t.1).bind fun x=>(zmi c.2.1).bind fun a=>some ⟨x.1,x.2,t.2.1,t.2.2,a,c.2.2.2⟩ else none
def zuI(rc:Rec)(nm:Names)(N:List Str)(c:Mc):Option Fs:=(zjd c.a).bind fun d=>if decide (d.m = "pop")&&(d.ap.endLine == d.cp.line) then (za3 nm N c.x).bind fun i=>(za3 nm N d.x).bind fun j=>(shE rc nm N d.a).bind fun f=>some (zf6 i j f) else none
noncomputable def zqL:Expr->Bool | .Subscript _ _ _=>true | _=>false
def zoj(G:Genv)(rc:Rec)(nm:Names)(N:List Str)(e:Expr):Option Fs:=match zjd e with
 | some c=>if decide (c.m = "append")&&(c.ap.endLine == c.cp.line) then (match zuI rc nm N c with | some f=>some f | none=>(za3 nm N c.x).bind fun i=>(shE rc nm N c.a).bind fun f=>some (zgP i f))
  else if decide (c.m = "extend")&&(c.ap.endLine == c.cp.line) then (za3 nm N c.x).bind fun i=>(opE rc nm N c.a).bind fun f=>some (if zqL c.a then znv i f else zrG i f) else if zdu e then none else (shE rc nm N e).map zl5
 | none=>if zdu e then none else (shE rc nm N e).map zl5
def zsB(rc:Rec)(nm:Names)(N:List Str)(own:Bool)(e:Expr):Option Fs:=match own with
 | true=>(match e with
  | .Name x _=>(za3 nm N x).map zkx
  | e=>(rc nm N e).bind fun p=>if p.1 then some (zbJ p.2) else none)
 | false=>(shE rc nm N e).map zbJ
def rzG(G:Genv)(rc:Rec)(nm:Names)(N:List Str)(full:Bool)(a b:Option Expr):Option Fs:=if b.isNone then a.bind fun e=>(zou e).bind fun c=>(zcN c.1).bind fun x=>if c.2.2.1.isEmpty&&!c.2.1.isEmpty&&full&&zaD nm x.1&&G.exc x.1 then (shL rc nm N c.2.1).bind fun fs=>some (sRz x.1 fs) else none else none
def zuu(G:Genv)(rs:Bool->List Stmt->Option Fs)(nm:Names)(N:List Str)(body:List Stmt):ExceptHandler->Option Fs
 | .ExceptHandler t n b _=>t.bind fun te=>(zcN te).bind fun C=>n.bind fun nn=>(zmi b).bind fun st=>(zvH st).bind fun as=>(zmi as.1).bind fun tg=>(zcN tg).bind fun m=>(zcN as.2.1).bind fun n' =>
  if zaD nm C.1&&G.exc C.1&&decide (nn=n'.1)&&decide (nm.lookup nn=some .local)&&zfe nn then (idx N nn).bind fun i=>(tgI true nm N N.length m.1).bind fun j=>if i=j then none else (rs false body).bind fun b=>some (zsz G.und C.1 i j b) else none
def zsf(G:Genv)(rs:Bool->List Stmt->Option Fs)(nm:Names)(N:List Str)(body:List Stmt)(hs:List ExceptHandler)(es fs:List Stmt):Option Fs:=if es.isEmpty&&fs.isEmpty then (zmi hs).bind fun h=>zuu G rs nm N body h else none
def stG(G:Genv)(rc:Rec)(rs:Bool->List Stmt->Option Fs)(nm:Names)(N:List Str)(own full:Bool)(st:Stmt):Option Fs:=match st with
 | .Pass _=>some sNx
 | .Break _=>some sBk
 | .Assign ts e _=>(zmi ts).bind fun tg=>zr1 G rc nm N tg e
 | .Expr e _=>zoj G rc nm N e
 | .AugAssign tg op e _=>(zcN tg).bind fun x=>(zrZ op).bind fun gg=>(tgI true nm N N.length x.1).bind fun i=>(shE rc nm N e).bind fun f=>some (zpC i gg f)
 | .Return o _=>(match o with | some e=>zsB rc nm N own e | none=>if own then none else some zky)
 | .If c a b _=>if zaS c then (shE rc nm N c).bind fun f=>(rs full a).bind fun g=>(rs full b).bind fun h=>some (sIf f g h) else none
 | .For tg it body el _=>if full&&el.isEmpty then (zhP G rc nm N tg it).bind fun i=>(tgG true nm N N.length tg).bind fun t=>(rs full body).bind fun b=>some (zl4 t i b) else none
 | .While c body el _=>if full&&zaS c&&el.isEmpty then (shE rc nm N c).bind fun f=>(rs full body).bind fun b=>some (ziF 100000 f b) else none
 | .Raise a b _=>rzG G rc nm N full a b
 | .Try body hs es fs _=>zsf G rs nm N body hs es fs
 | _=>none
def znE(n:Nat)(own:Bool)(nm:Names)(N:List Str):Stmt->List Nat
 | .Assign [_] e _=>zby n nm N e
 | .Expr (.Call (.Attribute _ _ _) args [] _) _=>args.flatMap (zby n nm N)
 | .Expr e _=>zby n nm N e
 | .Return (some (.Name x p)) _=>if own then [] else zby n nm N (.Name x p)
 | .Return (some e) _=>zby n nm N e
 | .If c _ _ _=>zby n nm N c
 | .For _ it _ _ _=>zby n nm N it
 | .While c _ _ _=>zby n nm N c
 | _=>[]
def blk(ds:Stmt->Option Fs):List Stmt->Option Fs
 | []=>some sNx
 | s::r=>(ds s).bind fun f=>(blk ds r).bind fun g=>some (zar f g)
def zlz(G:Genv)(own:Bool):Nat->Bool->Names->List Str->Stmt->Option Fs
 | 0,_,_,_,_=>none
 | n+1,full,nm,N,st=>(stG G (zrY G n) (fun fl b=>blk (zlz G own n fl nm N) b) nm N own full st).map (sFz (znE n own nm N st))
section
variable{cl:Cf}{G:Genv}{k:Nat}{rc:Rec}{X:Cx}{nm:Names}{N:List Str}{E:St->XK}{own full:Bool}
def Gd.sto(g:Gd cl G k X nm N E full):Sto' X nm true:=⟨fun _ x _=>g.fn x⟩
def zhz:∃b,swapsWith (.ListComp elt gs scope p) (some (.Name x px)) l env=pure b:=⟨_,rfl⟩
def zj8(q:tS cl E own (ze4 t f) De σ H):zmV (tE cl E f) (tG cl n t) De σ H:=by
 obtain ⟨B,w,ρ,S,rfl,R,q⟩:=q;refine ⟨B,w,ρ,S,rfl,R,?_⟩;unfold ze4 at q
 cases hf:f ρ S with
 | bad=>rwa [hf] at q
 | exc c S1=>rw [hf] at q;exact fun w' R' F'=>q σ w' R' F'
 | ok d S1 =>
  rw [hf] at q;intro v w' R' F' h';dsimp only at q
  cases hp:t.put ρ d with
  | none=>rw [hp] at q;exact q.elim
  | some ρ'=>rw [hp] at q;exact ⟨B,w',ρ,S1,d,ρ',rfl,R',h',hp,fun σ' _ _ R2=>q σ' w' R2 F'⟩
def zp2(hk:X.env.scope.kind=.function)(hs:X.env.scope.names=nm)(h:zkX nm x y px py a b=true) :
  swappedStores [.Tuple [.Name x px,.Name y py] kt pt] (.Tuple [a,b] k2 pt2) X.env=pure (some [x,y]):=by
 unfold zkX at h;simp only [yab,yaB,ybE,ycx] at h;obtain ⟨⟨⟨⟨⟨⟨⟨h1,h2⟩,h3⟩,h4⟩,h5⟩,h6⟩,h7⟩,h8⟩:=h
 have hb:X.env.blockKind=.function:=by unfold Env.blockKind;rw [hk];rfl
 have k1:X.env.kindOf x=some .local:=by unfold Env.kindOf;rw [hs];exact h1
 have k2':X.env.kindOf y=some .local:=by unfold Env.kindOf;rw [hs];exact h2
 have st:([a,b].any fun | .Starred ..=>true | _=>false)=false:=by
  rw [List.any_eq_false];intro e he
  have hp:zaB e=true:=by
   rcases yan.mp he with z | z
   ·rw [z];exact h5
   ·rw [yaX.mp z];exact h6
  cases e<;>first | (cases hp;done) | (intro z;cases z)
 have ed:[x,y].eraseDups.length=2:=by
  have:(y == x)=false:=by rw [ya0];exact fun z=>h4 z.symm
  simp [List.eraseDups_cons,this]
 unfold swappedStores;simp only [hb,st];simp [k1,k2',h3,h7,h8,ed,show (Expr.Name x px).pos=px from rfl,show (Expr.Name y py).pos=py from rfl];intro z;exfalso
 rcases z with z | z
 ·cases a<;>first | (cases h5;done) | cases z
 ·cases b<;>first | (cases h6;done) | cases z
def zlB(hs:zaQ cl G k rc)(g:Gd cl G k X nm N E full)(hi:tgI true nm N N.length x=some i)(h:zhW G rc nm N elt gg scope=some f) :
  PS X (.Assign [.Name x px] (.ListComp elt [gg] scope p) pos) (tS cl E own (zbL i true f)):=by
 obtain ⟨a1,a2,a3,a4,a5⟩:=zbn g.gx g.sto hi;obtain ⟨b,hb⟩:=zhz (elt:=elt) (gs:=[gg]) (scope:=scope) (p:=p) (px:=px) (x:=x) (l:=pos.line) (env:=X.env)
 cases b with
 | false=>exact zf3 a2 a3 a4 (zjQ hs g.gx h) hb a5
 | true =>
  obtain ⟨it,t,c,el,rfl,eg,S,i1,i2,i3,i4,i5⟩:=zeb hs g.gx h;rw [eg] at hb ⊢;refine PS.imp (zkG g.gx.calm S a2 a3 a4 i1 i3 i4 i5 hb a5 (zev i2)) ?_;intro De σ H q;exact zmB (zro q)
def zq6{x y:Str}{px py pt pt2 p1 p2:Pos}{kt k2:Nat}{a b:Const}{ka kb:Nat}{env:PySem.Env}:swappedStores [.Tuple [.Name x px,.Name y py] kt pt] (.Tuple [.Constant a ka p1,.Constant b kb p2] k2 pt2) env=pure none:=by
 have hf:∀(c:Const) (k:Nat) (p:Pos),foldedForSure 8 (.Constant c k p)=true:=fun _ _ _=>rfl
 unfold swappedStores;simp only [ybA,List.all_nil,hf,Bool.and_self,ybY]
 split<;>first | rfl | (split<;>first | rfl | (split<;>rfl))
def zio:swapsWithSole [.Subscript a i p] e l env=pure false:=by cases e<;>rfl
def ziq:swappedStores [.Subscript a i p] e env=pure none:=by cases e<;>rfl
def zo7:swapsWithSole [.Tuple es kk p] e l env=pure false:=by cases e<;>rfl
def zpa(h:zoI e=none):swappedStores [.Tuple es kk p] e env=pure none:=by cases e<;>first | rfl | cases h
def zlZ:swapsWith e (some (.Attribute o f p)) l env=pure false:=by cases e<;>rfl
def zoA(hs:zaQ cl G k rc)(g:Gd cl G k X nm N E full)(h:ztF G rc nm N x e=some f):PS X (.Assign [.Name x px] e pos) (tS cl E own f):=by
 unfold ztF at h;obtain ⟨i,h1,h⟩:=zaa h
 cases hl:lcE e with
 | some c =>
  rw [hl] at h;obtain ⟨gg,h2,h⟩:=zaa h;obtain ⟨fe,h3,h⟩:=zaa h;cases h;rw [zqs hl,zd2 h2];exact zlB hs g h1 h3
 | none =>
  rw [hl] at h;dsimp only at h;split at h
  ·cases h
  ·rename_i hc;obtain ⟨⟨o,fe⟩,h2,h⟩:=zaa h;cases h;obtain ⟨a1,a2,a3,a4,a5⟩:=zbn g.gx g.sto h1;obtain ⟨b1,b2,_,_⟩:=hs X nm N E g.gx _ o fe h2;have sw:=zcn (t:=some (.Name x px)) (l:=pos.line) (env:=X.env) (by simpa using hc)
   cases o with
   | false=>exact zl3 a2 a3 a4 b2 sw a5
   | true=>exact zf3 a2 a3 a4 (b1 rfl) sw a5
def zoy(hs:zaQ cl G k rc)(g:Gd cl G k X nm N E full)(h:ztE rc nm N t e=some f):PS X (.Assign [.Tuple t.1 t.2.1 t.2.2] e pos) (tS cl E own f):=by
 have tupCase:swappedStores [.Tuple t.1 t.2.1 t.2.2] e X.env=pure none->((tgG true nm N N.length (.Tuple t.1 t.2.1 t.2.2)).bind fun t=>(shE rc nm N e).bind fun f=>some (ze4 t f))=some f->PS X (.Assign [.Tuple t.1 t.2.1 t.2.2] e pos) (tS cl E own f):=by
  intro sw2 h;obtain ⟨t',h1,h⟩:=zaa h;obtain ⟨fe,h2,h⟩:=zaa h;cases h;exact PS.imp (zd0 (zao hs g.gx h2).1 (zmK g.gx g.sto h1) zo7 sw2 rfl) fun _ _ _ q=>zj8 q
 unfold ztE at h
 cases hv:zoI e with
 | none =>
  rw [hv] at h;exact tupCase (zpa hv) h
 | some v =>
  rw [hv] at h;dsimp only at h;split at h
  ·rename_i hce;have ev:=zf1 hv;unfold zvI at h
   cases h2:zoG rc nm N t.1 v.1 with
   | some f2 =>
    rw [h2] at h;cases h;unfold zoG at h2;obtain ⟨x,e1,h2⟩:=zaa h2;obtain ⟨c,e2,h2⟩:=zaa h2;obtain ⟨i,h3,h2⟩:=zaa h2;obtain ⟨j,h4,h2⟩:=zaa h2;obtain ⟨⟨o,fe⟩,h5,h2⟩:=zaa h2;dsimp only at h2;split at h2
    ·rename_i ho;cases h2;obtain ⟨_,a2,a3,a4,a5⟩:=zbn g.gx g.sto h3;obtain ⟨_,_,b3,b4,b5⟩:=zbn g.gx g.sto h4;obtain ⟨p1,p2,_,p4⟩:=hs X nm N E g.gx c.1 o fe h5;have hsw:=zgq (vs:=v.1) (k:=t.2.1) (k2:=v.2.1) (p:=t.2.2) (p2:=v.2.2) g.sc hce;rw [ev];rw [zqv e1,zrr e2] at hsw ⊢;exact zsM g.gx.calm a2 a3 b3 a4 b4 a5 b5 (p1 ho) (zac p4) hsw
    ·cases h2
   | none =>
    rw [h2] at h;dsimp only at h
    cases h3:zoF rc nm N t.1 v.1 with
    | some f3 =>
     rw [h3] at h;cases h;unfold zoF at h3;obtain ⟨x,e1,h3⟩:=zaa h3;obtain ⟨c,e2,h3⟩:=zaa h3;obtain ⟨hh,h0,h3⟩:=zaa h3;obtain ⟨i,h4,h3⟩:=zaa h3;obtain ⟨j,h5,h3⟩:=zaa h3;obtain ⟨fa,h6,h3⟩:=zaa h3;obtain ⟨⟨o,fe⟩,h7,h3⟩:=zaa h3;dsimp only at h3;split at h3
     ·rename_i ho;cases h3;obtain ⟨_,_,c3,c4,c5⟩:=zbn g.gx g.sto h0;obtain ⟨_,a2,a3,a4,a5⟩:=zbn g.gx g.sto h4;obtain ⟨_,_,b3,b4,b5⟩:=zbn g.gx g.sto h5;obtain ⟨p1,p2,_,p4⟩:=hs X nm N E g.gx c.2.1 o fe h7;obtain ⟨q1,_,q3⟩:=zao hs g.gx h6;have hsw:=zgq (vs:=v.1) (k:=t.2.1) (k2:=v.2.1) (p:=t.2.2) (p2:=v.2.2) g.sc hce;rw [ev];rw [zqu e1,zrq e2] at hsw ⊢;exact zsN g.gx.calm a2 c3 a3 b3 c4 a4 b4 c5 a5 b5 q1 (zac q3) (p1 ho) (zac p4) hsw
     ·cases h3
    | none =>
     rw [h3] at h;refine tupCase ?_ h;rw [ev];exact zgq g.sc hce
  obtain ⟨xy,h1,h⟩:=zaa h;obtain ⟨x,h2,h⟩:=zaa h;obtain ⟨y,h3,h⟩:=zaa h;obtain ⟨ab,h4,h⟩:=zaa h;have ev:=zf1 hv
  have et:t.1=[.Name x.1 x.2,.Name y.1 y.2]:=by rw [zlW h1,za2 h2,za2 h3]
  rw [zlW h4] at ev;obtain ⟨a,b⟩:=ab;dsimp only at h ev;split at h
  ·rename_i hp;obtain ⟨i,h1,h⟩:=zaa h;obtain ⟨j,h2,h⟩:=zaa h;split at h
   ·cases h
   ·rename_i hij;obtain ⟨⟨o1,f1⟩,h3,h⟩:=zaa h;obtain ⟨⟨o2,f2⟩,h4,h⟩:=zaa h;cases h;obtain ⟨_,a2,a3,_,_⟩:=zbn g.gx g.sto h1;obtain ⟨_,_,b3,_,_⟩:=zbn g.gx g.sto h2;obtain ⟨p1,p2,_,p4⟩:=hs X nm N E g.gx a o1 f1 h3;obtain ⟨q1,q2,_,q4⟩:=hs X nm N E g.gx b o2 f2 h4
    have hx:X.env.scope.names.lookup x.1=some .local/\X.env.scope.names.lookup y.1=some .local:=by
     unfold zkX at hp;simp only [yab,yaB] at hp;rw [g.sc];exact ⟨hp.1.1.1.1.1.1.1,hp.1.1.1.1.1.1.2⟩
    have P1:PE X a (tO cl E o1 f1):=by cases o1 with | false=>exact p2 | true=>exact p1 rfl
    have P2:PE X b (tO cl E o2 f2):=by cases o2 with | false=>exact q2 | true=>exact q1 rfl
    rw [et,ev];exact PS.imp (zpN g.gx.calm a2 a3 b3 hij hx.1 hx.2 (zat P1 (zat P2 zaV (zap (zac q4))) (zap (zac p4))) (zp2 g.kind g.sc hp) rfl) fun _ _ _ q=>zkW q
  ·split at h
   ·rename_i hc;rw [yab] at hc;refine tupCase ?_ h;rw [et,ev]
    cases a<;>first | (cases hc.1;done) | (cases b<;>first | (cases hc.2;done) | exact zq6)
   ·cases h
def zoD(hs:zaQ cl G k rc)(g:Gd cl G k X nm N E full)(h:ztI G rc nm N o fl e=some f):PS X (.Assign [.Attribute o fl ap] e pos) (tS cl E own f):=by
 unfold ztI at h;obtain ⟨x,h1,hz⟩:=zaa h;have e1:=zgY h1;clear h h1;subst e1;split at hz
 ·rename_i hd;split at hz
  ·rename_i hf;rw [yab] at hf;obtain ⟨i,h1,hz⟩:=zaw hz;subst hz;obtain ⟨s1,s2,s3,s4⟩:=g.gx.slot h1;obtain ⟨p,rfl⟩:=zlx hd;exact zm5 s1 s2 s3 s4 g.gx.same (g.gx.gok.fk _ _ hf.2) zlZ
  ·cases hz
 ·split at hz
  ·cases hz
  ·rename_i hf;rw [Bool.not_eq_true,Bool.or_eq_false_iff,Bool.not_eq_false'] at hf;obtain ⟨fo,h2,hz⟩:=zaa hz;obtain ⟨fe,h3,hz⟩:=zaa hz;cases hz;exact zm4 g.gx.same (g.gx.gok.fk _ _ hf.2) (zao hs g.gx h2).1 (zao hs g.gx h3).1 zlZ
def zoB(hs:zaQ cl G k rc)(g:Gd cl G k X nm N E full)(h:ztG G rc nm N o fl ix e=some f):PS X (.Assign [.Subscript (.Attribute o fl ap) ix p3] e pos) (tS cl E own f):=by
 unfold ztG at h;split at h
 ·rename_i hc;rw [yab,yab,yab,ybE] at hc;obtain ⟨x,h1,hz⟩:=zaa h;have e1:=zgY h1;clear h h1;subst e1;obtain ⟨i,h1,hz⟩:=zaa hz;obtain ⟨fo,h2,hz⟩:=zaa hz;obtain ⟨fe,h3,hz⟩:=zaa hz;cases hz;obtain ⟨s1,s2,s3,s4⟩:=g.gx.slot h1;refine zm2 s1 s2 s3 s4 g.gx.u16 g.gx.same (g.gx.gok.fk _ _ hc.2) (zao hs g.gx h2).1 ?_ (zao hs g.gx h3).1 zio ziq ?_
  ·cases o<;>first | rfl | cases hc.1.1.1
  ·intro _;rfl
 ·cases h
def zoC(hs:zaQ cl G k rc)(g:Gd cl G k X nm N E full){ix e:Expr}{x:Str}{px p3:Pos}{f:Fs}{pos:Pos}(h:ztH rc nm N x ix e=some f):PS X (.Assign [.Subscript (.Name x px) ix p3] e pos) (tS cl E own f):=by
 unfold ztH at h;split at h
 ·rename_i hx;rw [yab,ybE] at hx;obtain ⟨i,h1,h⟩:=zaa h;obtain ⟨fi,h2,h⟩:=zaa h;obtain ⟨fe,h3,h⟩:=zaa h;cases h;obtain ⟨s1,s2,s3,s4⟩:=g.gx.slot h1;obtain ⟨b1,_⟩:=zaY hs g.gx h2;obtain ⟨a1,_,_⟩:=zao hs g.gx h3;refine zmX s1 s2 s3 s4 a1 b1 zio ziq ?_
  cases ix<;>first | (intro _;rfl) | cases hx.1
 ·cases h
def zoE(hs:zaQ cl G k rc)(g:Gd cl G k X nm N E full)(h:ztJ rc nm N x ix e=some f):PS X (.Assign [.Subscript (.Name x px) ix p3] e pos) (tS cl E own f):=by
 unfold ztJ at h;split at h
 ·rename_i hx;rw [yab] at hx;obtain ⟨i,h1,h⟩:=zaa h;obtain ⟨fi,h2,h⟩:=zaa h;obtain ⟨fe,h3,h⟩:=zaa h;cases h;obtain ⟨s1,s2,s3,s4⟩:=g.gx.slot h1;refine zm1 g.gx.same s1 s2 s3 s4 (zao hs g.gx h2).1 (zao hs g.gx h3).1 zio ziq ?_
  cases ix<;>first | (intro _;rfl) | cases hx.1
 ·cases h
def zrn(hs:zaQ cl G k rc)(g:Gd cl G k X nm N E full)(h:zr1 G rc nm N tg e=some f):PS X (.Assign [tg] e pos) (tS cl E own f):=by
 unfold zr1 at h
 cases h1:zcN tg with
 | some x=>rw [h1] at h;rw [za2 h1];exact zoA hs g h
 | none =>
  rw [h1] at h
  cases h2:zoI tg with
  | some t=>rw [h2] at h;rw [zf1 h2];exact zoy hs g h
  | none =>
   rw [h2] at h
   cases h3:zoO tg with
   | some a=>rw [h3] at h;rw [zgu h3];exact zoD hs g h
   | none =>
    rw [h3] at h;obtain ⟨q,h4,h⟩:=zaa h;rw [zmW h4];unfold zrp at h
    cases h5:zoO q.1 with
    | some a=>rw [h5] at h;rw [zgu h5];exact zoB hs g h
    | none =>
     rw [h5] at h;obtain ⟨x,h6,h⟩:=zaa h;rw [za2 h6];split at h
     ·exact zoE hs g h
     ·exact zoC hs g h
def zg0(h:zjd e=some c):e=.Call (.Attribute (.Name c.x c.px) c.m c.ap) [c.a] [] c.cp:=by
 unfold zjd at h;obtain ⟨c1,h1,h⟩:=zaa h;split at h
 ·rename_i hk;obtain ⟨t,h2,h⟩:=zaa h;obtain ⟨x,h3,h⟩:=zaa h;obtain ⟨a,h4,h⟩:=zaa h;cases h;rw [zhj h1,zgu h2,za2 h3,zd2 h4,ybm.mp hk]
 ·cases h
def zoi(hs:zaQ cl G k rc)(g:Gd cl G k X nm N E full)(h:zoj G rc nm N e=some f):PS X (.Expr e pos) (tS cl E own f):=by
 unfold zoj at h
 cases hc:zjd e with
 | some c =>
  obtain ⟨x,px,m,ap,a,cp⟩:=c;obtain rfl:=zg0 hc;rw [hc] at h;dsimp only at h;split at h
  ·rename_i hm;rw [yab] at hm;have em:=yal hm.1;subst em;split at h
   ·rename_i fp hp;cases h;unfold zuI at hp;obtain ⟨d,e1,hp⟩:=zaa hp;dsimp only at hp e1;split at hp
    ·rename_i hb;rw [yab] at hb;obtain ⟨i,h1,hp⟩:=zaa hp;obtain ⟨j,h2,hp⟩:=zaa hp;obtain ⟨fe,h3,hp⟩:=zaa hp;cases hp;obtain ⟨s1,s2,s3,s4⟩:=g.gx.slot h1;obtain ⟨t1,t2,t3,t4⟩:=g.gx.slot h2;obtain ⟨a1,_,a3⟩:=zao hs g.gx h3;have ed:=zg0 e1;rw [yal hb.1] at ed;rw [ed];exact zm7 s1 s2 s3 s4 t1 t2 t3 t4 a1 (zac a3) hm.2 hb.2
    ·cases hp
   obtain ⟨i,h1,h⟩:=zaa h;obtain ⟨fe,h2,h⟩:=zaa h;cases h;obtain ⟨s1,s2,s3,s4⟩:=g.gx.slot h1;obtain ⟨a1,_,a3⟩:=zao hs g.gx h2;exact zph s1 s2 s3 s4 a1 (zac a3) hm.2
  split at h
  ·rename_i hm;rw [yab] at hm;have em:=yal hm.1;subst em;obtain ⟨i,h1,h⟩:=zaa h;obtain ⟨fe,h2,h⟩:=zaa h;cases h;obtain ⟨s1,s2,s3,s4⟩:=g.gx.slot h1;obtain ⟨a1,a3⟩:=zaY hs g.gx h2;split
   ·exact zm6 s1 s2 s3 s4 a1 (zac a3) hm.2
   ·exact zpe s1 s2 s3 s4 a1 (zac a3) hm.2
  split at h
  ·cases h
  ·rename_i hc;obtain ⟨fe,h2,h⟩:=zaw h;subst h;exact zl2 (zao hs g.gx h2).1 (zcn (by simpa using hc))
 | none =>
  rw [hc] at h;dsimp only at h;split at h
  ·cases h
  ·rename_i hc;obtain ⟨fe,h2,h⟩:=zaw h;subst h;exact zl2 (zao hs g.gx h2).1 (zcn (by simpa using hc))
def zpD(hs:zaQ cl G k rc)(g:Gd cl G k X nm N E full)(h:zsB rc nm N own e=some f):PS X (.Return (some e) pos) (tS cl E own f):=by
 unfold zsB at h;split at h
 ·split at h
  ·obtain ⟨i,h1,h⟩:=zaw h;subst h;obtain ⟨s1,s2,s3,s4⟩:=g.gx.slot h1;exact zmY s1 s2 s3 s4
  ·obtain ⟨⟨o,fe⟩,h1,h⟩:=zaa h;dsimp only at h;split at h
   ·rename_i ho;cases h;exact zmZ ((hs X nm N E g.gx _ o fe h1).1 ho)
   ·cases h
 ·obtain ⟨fe,h2,h⟩:=zaw h;subst h;exact zis (zao hs g.gx h2).1
def zoW(g:Gd cl G k X nm N E full)(pins:Z3)(E':St->XK):Gd cl G k (zlX X pins E') nm N E' false where
 gx:=⟨g.gx.gok,g.gx.room,g.gx.calm,fun pins' σ H s e s' I q=>⟨σ,H,s,zbq I,q⟩,g.gx.eN,g.gx.kk,g.gx.pp,g.gx.ww,g.gx.nd,g.gx.vis,g.gx.fnx,g.gx.cod,g.gx.fnc⟩
 fn:=g.fn
 kind:=g.kind
 sc:=g.sc
 own:=fun z=>by cases z
 raises:=fun z=>by cases z
 stk:=g.stk
 frm:=g.frm
def zsq(hs:zaQ cl G k rc){rs:Bool->List Stmt->Option Fs}(hr:∀(fl:Bool) (X:Cx) (E:St->XK),Gd cl G k X nm N E fl->∀b f,rs fl b=some f->PSs X b (tS cl E own f))(g:Gd cl G k X nm N E full){st:Stmt}{f:Fs}(h:stG G rc rs nm N own full st=some f):PS X st (tS cl E own f):=by
 cases st with
 | Pass p=>cases h;exact zm3
 | Break p=>cases h;exact zpf
 | Assign ts e p =>
  obtain ⟨tg,h1,h⟩:=zaa (show ((zmi ts).bind fun tg=>zr1 G rc nm N tg e)=some f from h);obtain rfl:=zd2 h1;exact zrn hs g h
 | Expr e p=>exact zoi hs g h
 | AugAssign tg op e p =>
  obtain ⟨x,h1,hz⟩:=zaa (show ((zcN tg).bind fun x=>(zrZ op).bind fun gg=>(tgI true nm N N.length x.1).bind fun i=>(shE rc nm N e).bind fun f=>some (zpC i gg f))=some f from h);obtain ⟨gg,h2,hz⟩:=zaa hz;obtain ⟨i,h3,hz⟩:=zaa hz;obtain ⟨fe,h4,hz⟩:=zaa hz;cases hz;rw [za2 h1];obtain ⟨_,a2,a3,a4,a5⟩:=zbn g.gx g.sto h3;exact zpg h2 a2 a3 a4 (zao hs g.gx h4).1 a5
 | Return o p =>
  cases o with
  | some e=>exact zpD hs g h
  | none =>
   have h':(if own then none else some zky)=some f:=h;split at h'
   ·cases h'
   ·rename_i ho;cases h'
    have:own=false:=by simpa using ho
    subst this;exact zm0
 | If c a b p =>
  have h':(if zaS c then (shE rc nm N c).bind fun f=>(rs full a).bind fun g=>(rs full b).bind fun h=>some (sIf f g h) else none)=some f:=h;split at h'
  ·rename_i ht;obtain ⟨fc,h1,h⟩:=zaa h';obtain ⟨fa,h2,h⟩:=zaa h;obtain ⟨fb,h3,h⟩:=zaa h;cases h;exact zpc ((zao hs g.gx h1).2.1 ht) (hr full X E g a fa h2) (hr full X E g b fb h3)
  ·cases h'
 | For tg it body el p =>
  have h':(if full&&el.isEmpty then (zhP G rc nm N tg it).bind fun i=>(tgG true nm N N.length tg).bind fun t=>(rs full body).bind fun b=>some (zl4 t i b) else none)=some f:=h;split at h'
  ·rename_i hf;rw [yab] at hf;obtain rfl:=ybm.mp hf.2;obtain ⟨it,h1,h⟩:=zaa h';obtain ⟨t,h2,h⟩:=zaa h;obtain ⟨fb,h3,h⟩:=zaa h;cases h;obtain ⟨i1,i2⟩:=zjs hs g.gx (tg:=_) h1;exact zpd (g.own hf.1) g.gx.calm i1 (zmK g.gx g.sto h2) (hr full X E g _ fb h3) (zev i2)
  ·cases h'
 | While c body el p =>
  have h':(if full&&zaS c&&el.isEmpty then (shE rc nm N c).bind fun f=>(rs full body).bind fun b=>some (ziF 100000 f b) else none)=some f:=h;split at h'
  ·rename_i hf;rw [yab,yab] at hf;obtain rfl:=ybm.mp hf.2;obtain ⟨fc,h1,h⟩:=zaa h';obtain ⟨fb,h3,h⟩:=zaa h;cases h;exact zkp 100000 (g.own hf.1.1) ((zao hs g.gx h1).2.1 hf.1.2) (hr full X E g _ fb h3)
  ·cases h'
 | Raise ea eb p =>
  have h':rzG G rc nm N full ea eb=some f:=h;unfold rzG at h';split at h'
  ·rename_i hb;obtain rfl:=Option.isNone_iff_eq_none.mp hb;obtain ⟨e0,e1,hz⟩:=zaa h';obtain ⟨c0,h1,hy⟩:=zaa hz;obtain ⟨⟨c,p⟩,h2,hx⟩:=zaa hy;have e2:=zhj h1;obtain ⟨fn,args,kws,cp⟩:=c0;have e3:fn=.Name c p:=za2 h2;clear h h' hz hy h1 h2;subst e1;subst e2;subst e3;dsimp only at hx ⊢;split at hx
   ·rename_i hf;simp only [yab] at hf;obtain ⟨⟨⟨⟨k0,a0⟩,f0⟩,g0⟩,x0⟩:=hf;obtain rfl:=ybm.mp k0
    cases args with
    | nil=>cases a0
    | cons e es =>
    obtain ⟨fs,h1,h⟩:=zaa hx;cases h;obtain ⟨g1,g2,_⟩:=g.gx.glob g0;obtain ⟨m,z⟩:=g.gx.gok.exc c x0;obtain ⟨a1,a2,_⟩:=zdf hs g.gx h1;rw [ybA,yab] at a2;refine PS.imp (ziN (g.raises f0) g.gx.calm g1 m z a1 (zap a2.1) (zaN a2.2) g2) ?_;rintro De σ H ⟨B,w,ρ,S,rfl,R,q⟩;refine ⟨B,w,ρ,S,rfl,R,?_⟩;unfold sRz at q
    cases hv:zag fs ρ S with
    | bad=>rwa [hv] at q
    | exc c S1=>rw [hv] at q;exact fun w' R' F'=>q σ w' R' F'
    | ok ds S1 =>
     rw [hv] at q;dsimp only at q
     cases hz:small ds.length with
     | false=>rw [hz,if_neg (by decide)] at q;exact q.elim
     | true =>
      rw [hz,if_pos rfl] at q;exact fun vs w' R' F' sh=>⟨by rw [sh.length];exact zav hz,q σ w' R' F'⟩
   ·cases hx
  ·cases h'
 | Try body hs' es' fs' p =>
  have h':zsf G rs nm N body hs' es' fs'=some f:=h;unfold zsf at h';split at h'
  ·rename_i he;rw [yab] at he;obtain rfl:=ybm.mp he.1;obtain rfl:=ybm.mp he.2;obtain ⟨hd,h1,hz⟩:=zaa h';have e1:=zd2 h1;clear h h' h1;subst e1;obtain ⟨ty,nn,bb,hp⟩:=hd;unfold zuu at hz;obtain ⟨te,e2,hz⟩:=zaa hz;obtain ⟨⟨C,np⟩,h2,hz⟩:=zaa hz;obtain ⟨n,e3,hz⟩:=zaa hz;obtain ⟨st,h3,hz⟩:=zaa hz;obtain ⟨⟨ts,v,ap⟩,h4,hz⟩:=zaa hz;obtain ⟨tg,h5,hz⟩:=zaa hz;obtain ⟨⟨m,mp⟩,h6,hz⟩:=zaa hz;obtain ⟨⟨n',n'p⟩,h7,h⟩:=zaa hz;rw [e2,e3,za2 h2,zd2 h3,zoz h4];dsimp only at h5 h7 h ⊢;rw [zd2 h5,za2 h6,za2 h7];dsimp only;split at h
   ·rename_i hc;simp only [yab,yaB] at hc;obtain ⟨⟨⟨⟨c1,c2⟩,c3⟩,c4⟩,c5⟩:=hc;subst c3;obtain ⟨i,h1,h⟩:=zaa h;obtain ⟨j,h2,h⟩:=zaa h;split at h
    ·cases h
    ·rename_i hij;obtain ⟨fb,h3,h⟩:=zaa h;cases h;obtain ⟨g1,g2,_⟩:=g.gx.glob c1;obtain ⟨mC,zC⟩:=g.gx.gok.exc C c2;obtain ⟨o1,o2,_⟩:=zdm c5
     have hnl:X.env.scope.names.lookup n=some .local:=by rw [g.sc];exact c4
     have hNi:X.N[i]?=some n:=by rw [g.gx.eN];exact zcP h1
     obtain ⟨_,a2,a3,a4,a5⟩:=zbn g.gx g.sto h2;refine PS.imp (ziL (tb:=fun E'=>tS cl E' own fb) g.stk g.frm (by rw [g.gx.eN];exact g.gx.nd) hNi hnl g1 mC zC (by decide +kernel) (fun pins E'=>hr false _ E' (zoW g pins E') _ fb h3) (fun a=>zes (ziM (X:=X.inH a) a2 a3 a4 (zaU (X:=X.inH a) hNi (.inl hnl) o1 o2) rfl a5)) g2) ?_;intro De σ H q;exact zkn hij (fun c hc'=>g.gx.gok.und c C hc') q
   ·cases h
  ·cases h'
 | _=>cases h
theorem zhm(hd:∀st f,ds st=some f->PS X st (tS cl E own f)):∀{b:List Stmt} {f:Fs},blk ds b=some f->PSs X b (tS cl E own f)
 | [],f,h=>by cases h;exact zgH
 | s::r,f,h=>by
  unfold blk at h;obtain ⟨f1,h1,h⟩:=zaa h;obtain ⟨f2,h2,h⟩:=zaa h;cases h;exact zcJ (hd s f1 h1) (zhm hd h2)
theorem zeK:∀(n:Nat) (fl:Bool) (X:Cx) (E:St->XK),Gd cl G k X nm N E fl->∀st f,zlz G own n fl nm N st=some f->PS X st (tS cl E own f)
 | 0,_,_,_,_,_,_,h=>by cases h
 | n+1,fl,X,E,g,st,f,h=>by
  unfold zlz at h;obtain ⟨f1,h1,h⟩:=zaw h;subst h;exact zsr _ (zsq (zjP n) (fun fl X E g b f hb=>zhm (fun st f hst=>zeK n fl X E g st f hst) hb) g h1)
end
noncomputable def zb4(nN:Nat)(own:Bool)(fs:Fs)(ds:List D)(S:Sto):Out D:=match fs (ds.map (fun d=>some (false,d))++List.replicate (nN-ds.length) none) S with
 | .rt d S'=>.ok d S'
 | .nx _ S'=>if own then .bad else .ok .non S'
 | .ex c _ S'=>.exc c S'
 | _=>.bad
def zaA(G:Genv)(own:Bool)(N:List Str)(st:Stmt):Option Fs:=blk (zlz G own 40 true (zab st).names N) (zay st)
theorem ztl{P:Program}{wo:PySem.World}{K:PySem.W.Frag}{mg:Z6}{base:Heap}{cl:Cf}{G:Genv}{k:Nat}{x qual:Str}{st:Stmt}{f:Addr}{fd:FuncData}{N ps:List Str}{own:Bool}{fs:Fs}(F:Fun K x qual st f fd)(S:FnScope N ps (zab st))(hG:GOk cl G P wo K mg base k)
  (hk:K=cl.K) (hP:P=cl.P) (hW:wo=cl.wo) (hd:zaA G own N st=some fs) (hc:G.cod=none:=by rfl):FnOk P wo K mg base (CXE P wo) (k+1) f fd ps (zfU cl ps.length own (zb4 N.length own fs)):=by
 obtain ⟨oc,od,kV,doc,pm,an,cdv,ct,osl,rfl,lk,hcd⟩:=F.ex;refine zqS lk hcd S (fun vs H Q E h=>h.1) fun A outer s H vs Q E hr hsp=>?_
 refine ⟨tS cl (fun _=>E) own fs,?_,?_⟩
 ·have g:Gd cl G k (zfA (CXE P wo) P wo K mg base N qual (zab st) f cdv A outer s H E) (zab st).names N (fun _=>E) true :=
   ⟨⟨hG,hr,rfl,fun pins σ H1 s1 e s' I q=>zp1 pins σ H1 s1 e s' I q,rfl,hk,hP,hW,S.nd,fun x kd h=>⟨kd,h,.inl rfl⟩,(fun x h=>h),(fun c h=>by rw [hc] at h;cases h),(fun x h=>rfl)⟩,fun _=>rfl,S.kind,rfl,fun _=>PassesOwn.leaving,fun _ C pins σ H1 s1 e h' vs I mk q=>ziJ C pins σ H1 s1 e h' vs I mk q,rfl,rfl⟩
  exact zhm (fun st f hst=>zeK 40 true _ _ g st f hst) hd
 ·obtain ⟨hl,B,w,ds,S0,rfl,W,sh,q⟩:=hsp;have hdl:ds.length=vs.length:=sh.length.symm;refine ⟨B,w,ds.map (fun d=>some (false,d))++List.replicate (N.length-ds.length) none,S0,rfl,⟨W,?_,fun i o d hi=>?_⟩,?_⟩
  ·unfold L2.zbI;rw [yau,yau,yao,yao,yaO,yaO,hdl]
  ·by_cases hlt:i<ds.length
   ·rw [yaF (by rw [yao];exact hlt),yaq] at hi
    cases hdi:ds[i]? with
    | none=>rw [hdi] at hi;cases hi
    | some d' =>
     rw [hdi] at hi;cases hi;obtain ⟨v,e1,e2⟩:=sh.at hdi;refine ⟨v,?_,e2⟩;unfold L2.zbI;rw [yaF (by rw [yao];omega),yaq,e1];rfl
   ·rw [yav (by rw [yao];omega),ybz] at hi
    split at hi<;>cases hi
  ·unfold zb4 at q
   cases hf:fs (ds.map (fun d=>some (false,d))++List.replicate (N.length-ds.length) none) S0 with
   | bad=>rwa [hf] at q
   | bk _ _=>rw [hf] at q;exact q.elim
   | ct _ _=>rw [hf] at q;exact q.elim
   | rt d S'=>rwa [hf] at q
   | ex c ρ' S'=>rw [hf] at q;exact fun σ' w' R' F'=>q w' R'.wd F'
   | nx ρ' S' =>
    rw [hf] at q;dsimp only at q
    cases own with
    | true=>exact q.elim
    | false=>exact fun σ' w' R' F'=>q .non w' R'.wd F' .non
end S2
namespace L2
open PySem PySem.Spec PyProof.Rows
noncomputable def zlS(tabs:List (Addr×Addr))(H:Hp):Prop:=∀b,H b=none\/(∃o xs,H b=some (.frz o (.lst xs)))\/(H b=some (.tbl #[])/\b∈tabs.map (·.2))
def zjl{P:Program}{w:World}{K:PySem.W.Frag}{mg mb:Z6}{CX:CXT}{k:Nat}{fa a:Addr}{fd:FuncData}{x:Str}{sp:Sp}{s₁:Shared}{vs:List Value}{ns:List Int}{tabs:List (Addr×Addr)}
  (KX:K.In s₁.heap) (hns:s₁.heap.Ns mainGlobals mg) (hb:s₁.heap.Ns builtinsNs mb) (hbb:∀x:Str,x ≠ "__name__" -> mb x=bootBuiltins x) (hlim:s₁.heap.NoLimit) (hg:s₁.gens=#[])
  (ha:s₁.heap.get? a=some { cls:=.type "list",data:=.seq vs.toArray }) (hi:IntsAre vs ns) (hl:ns.length<=sizeLine) (hr:Room k callerA)
  (hT:PySem.W.TabsAt tabs s₁.heap) (hnt:PySem.W.noTabs K=true) (hbm:zlV mg s₁.heap)
  (F:∀base:Heap,K.In base->base.Ns mainGlobals mg->zlV mg base->(∀q∈tabs,PySem.W.CodeHd base q.1 q.2)->FnOk P w K mg base CX k fa fd [x] sp) (hbind:∀(s:Shared) (u:Value),BindsTo s fd ⟨[u],[]⟩ [(x,u)])
  (hsp:∀H:Hp,zlS tabs H->(∀q∈tabs,H q.2=some (.tbl #[]))->(∀q∈tabs,q.2≠a)->SqL K H a (ns.map V.int)->sp [.ref a] H (fun v _=>v=.bl true) fun _ _ _=>False)
  (hCX:∀H e s',CX [] H s₁ (fun _ _ _=>False) e s'->False) :
  codeAny (model P w) callerA (.call (.ref fa) ⟨[.ref a],[]⟩) (fun r s'=>r=.ok (.ret (.bool true))/\OldK s₁.heap s'.heap/\s'.os=s₁.os/\AllBare s'.gens) s₁:=by
 have rv:=zeT hi;have lenV:=hi.length
 have tP:∀b∈tabs.map (·.2),s₁.heap.get? b=some (PySem.W.tabObj #[]):=fun b hb=>by
  obtain ⟨q,hq,rfl⟩:=ybd.mp hb;exact (hT q hq).2
 have na:a ∉ tabs.map (·.2):=fun z=>by have e:=tP a z;rw [ha] at e;cases e
 have tK:∀b∈tabs.map (·.2),K.lookup b=none:=fun b hb=>by
  cases e:K.lookup b with
  | none=>rfl
  | some o =>
   have e1:=KX b o e;rw [tP b hb] at e1;cases e1;have h2:=ybv.mp hnt _ (PySem.W.mem_of_lookupK e);exact absurd (show false=true from h2) yaG
 have core:∀H:Hp,zlS tabs H->(∀q∈tabs,H q.2=some (.tbl #[]))->SqL K H a (ns.map V.int)->HOk P w H s₁.heap->(∀b,H b≠none->b=a\/b∈tabs.map (·.2))->(H a≠none->K.lookup a=none) →
   codeAny (model P w) callerA (.call (.ref fa) ⟨[.ref a],[]⟩) (fun r s'=>r=.ok (.ret (.bool true))/\OldK s₁.heap s'.heap/\s'.os=s₁.os/\AllBare s'.gens) s₁:=by
  intro H hO hTb hS hok hA hK;have zbA:∀{b:Addr} {o:Obj},s₁.heap.get? b=some o->H b=none->(zjy s₁.heap H).get? b=some o:=fun e n=>zlo e n
  have noX:∀{b:Addr} {o:Obj},s₁.heap.get? b=some o->(∀its n,o.data≠.seq its n)->o≠PySem.W.tabObj #[]->H b=none:=fun {b o} e d d2=>by
   cases q:H b with
   | none=>rfl
   | some u =>
    rcases hA b (by rw [q];simp) with e' | e'
    ·subst e';rw [ha] at e;cases e;exact absurd rfl (d _ _)
    ·rw [tP b e'] at e;cases e;exact absurd rfl d2
  have noA:∀{b:Addr} {o:Obj} {es:Array DictEntry} {ep:Nat},s₁.heap.get? b=some o->o.data=.dict es ep->H b=none:=fun {b o es ep} e d=>noX e (fun _ _ z=>by rw [d] at z;cases z) (fun z=>by rw [z] at d;cases d)
  have nsK:∀{b:Addr} {m:Z6},s₁.heap.Ns b m->(zjy s₁.heap H).Ns b m:=fun {b m} ⟨o,es,ep,e,d,r⟩=>⟨o,es,ep,zbA e (noA e d),d,r⟩
  have hKb:K.In (zjy s₁.heap H):=fun b o e=>zbA (KX b o e) (by
   cases q:H b with
   | none=>rfl
   | some u =>
    rcases hA b (by rw [q];simp) with e' | e'
    ·subst e';rw [hK (by rw [q];simp)] at e;cases e
    ·rw [tK b e'] at e;cases e)
  have hBm:zlV mg (zjy s₁.heap H):=by
   obtain ⟨bm,ob,b1,b2,b3,b4,b5,b6⟩:=hbm;exact ⟨bm,ob,b1,b2,zbA b3 (noX b3 (fun _ _ z=>by rw [b6] at z;cases z) (fun z=>by rw [z] at b6;cases b6)),b4,b5,b6⟩
  have hCd:∀q∈tabs,PySem.W.CodeHd (zjy s₁.heap H) q.1 q.2:=fun q hq=>by
   obtain ⟨o,us,file,tf,flags,tg,inF,text,tt,e,r1,r2,r⟩:=(hT q hq).1;exact ⟨o,us,file,tf,flags,tg,inF,text,tt,zbA e (noX e (fun _ _ z=>by rw [r2] at z;cases z) (fun z=>by rw [z] at r1;cases r1)),r1,r2,r⟩
  have hM:Mod K mg (zjy s₁.heap H):=⟨hKb,nsK hns,⟨mb,nsK hb,hbb⟩,let ⟨mc,h1,h2⟩:=hlim;⟨mc,nsK h1,h2⟩⟩;have e0:Env0 P w K mg (zjy s₁.heap H) callerA [] s₁ H:=⟨rfl,hM,fun b o e=>znO e,Nat.le_of_eq (zjx _ _),trivial,fun b hb=>absurd (show b∈([]:List Addr) from hb) (by simp),hok,.of_eq hg⟩;refine ybB ((F _ hKb (nsK hns) hBm hCd).run callerA [] s₁ H ⟨[.ref a],[]⟩ [.ref a] [.ref a] _ _ hr e0 (hbind s₁ (.ref a)) (.cons rfl .nil) (hsp H hO hTb (fun q hq z=>na (z ▸ yc4 hq)) hS)) fun r s' h=>?_
  cases r with
  | error e=>exact (hCX H e s' h).elim
  | ok fl =>
   cases fl with
   | next=>exact False.elim h
   | brk=>exact False.elim h
   | cont=>exact False.elim h
   | ret u =>
    obtain ⟨v,H',os,bare,un,hok',r',q⟩:=h;have q':v=.bl true:=q;subst q';obtain rfl:u=Value.bool true:=r';refine ⟨rfl,⟨fun b o e=>?_,fun b o e=>un.there b o e (by simp)⟩,os,bare⟩
    cases q:H b with
    | none=>exact .inl (un.keep b o e q (by intro z;exact absurd (show b∈([]:List Addr) from z) (by simp)) (by simp))
    | some u =>
     rcases hO b with z | ⟨ob,xs,z⟩ | ⟨z,hb⟩
     ·rw [q] at z;cases z
     ·have z2:=un.frzs b ob _ z;obtain ⟨e1,_⟩:=hok b _ z;obtain ⟨e2,_⟩:=hok' b _ z2;rw [e] at e1;cases e1;exact .inl e2
     ·obtain ⟨more,z2⟩:=un.tbls b _ z;have e2:s'.heap.get? b=some (PySem.W.tabObj (#[]++more)):=hok' b _ z2;have e1:=tP b hb;rw [e] at e1;cases e1;obtain ⟨p,hp,rfl⟩:=ybd.mp hb;exact .inr (.inl ⟨((hT p hp).1.tab (hT p hp).2).isCodeTable,rfl,#[],more,rfl,e2⟩)
 have hTO:∀(H0:Hp),HOk P w H0 s₁.heap->(∀b,H0 b≠none->b=a)->HOk P w (fun b=>if b∈tabs.map (·.2) then some (.tbl #[]) else H0 b) s₁.heap:=fun H0 h0 hA b u q=>by
  have q':(if b∈tabs.map (·.2) then some (HO.tbl #[]) else H0 b)=some u:=q;split at q'
  ·rename_i hb;cases q';exact tP b hb
  ·refine (h0 b u q').stay (fun c v _ r=>r) (fun c r=>?_) fun c xs r=>?_
   ·show (if c∈tabs.map (·.2) then _ else H0 c)=_;rw [if_neg (fun z=>na (hA c (by rw [r];simp) ▸ z))];exact r
   ·show (if c∈tabs.map (·.2) then _ else H0 c)=_;rw [if_neg (fun z=>na (hA c (by rw [r];simp) ▸ z))];exact r
 cases hk:K.lookup a with
 | some o =>
  have e:=KX a o hk;rw [ha] at e;cases e;refine core (fun b=>if b∈tabs.map (·.2) then some (.tbl #[]) else none) (fun b=>?_) (fun q hq=>if_pos (yc4 hq)) (.inr ⟨_,vs.toArray,_,hk,rfl,rfl,rfl,by rw [yaf,lenV];exact hl,by simpa using rv⟩) (hTO (fun _=>none) (fun b u z=>by have z':(none:Option HO)=some u:=z;cases z') fun b z=>absurd rfl z) (fun b z=>?_) fun z=>absurd (if_neg na) z
  ·by_cases hb:b∈tabs.map (·.2)
   ·exact .inr (.inr ⟨if_pos hb,hb⟩)
   ·exact .inl (if_neg hb)
  ·by_cases hb:b∈tabs.map (·.2)
   ·exact .inr hb
   ·exact absurd (if_neg hb) z
 | none =>
  have h0:HOk P w (fun b=>if b=a then some (.frz { cls:=.type "list",data:=.seq vs.toArray } (.lst (ns.map V.int))) else none) s₁.heap:=fun b u z=>by
   by_cases hb:b=a
   ·have z':=(if_pos hb).symm.trans z;cases z';subst hb;exact ⟨ha,by rw [yao];exact hl,vs,_,rv,ha⟩
   ·have z':=(if_neg hb).symm.trans z;cases z'
  refine core (fun b=>if b∈tabs.map (·.2) then some (.tbl #[]) else if b=a then some (.frz { cls:=.type "list",data:=.seq vs.toArray } (.lst (ns.map V.int))) else none) (fun b=>?_) (fun q hq=>if_pos (yc4 hq)) (.inl (.inr ⟨{ cls:=.type "list",data:=.seq vs.toArray },(if_neg na).trans (if_pos rfl)⟩)) (hTO _ h0 fun b z=>?_) (fun b z=>?_) fun _=>hk
  ·by_cases hb:b∈tabs.map (·.2)
   ·exact .inr (.inr ⟨if_pos hb,hb⟩)
   ·by_cases hb2:b=a
    ·exact .inr (.inl ⟨_,_,(if_neg hb).trans (if_pos hb2)⟩)
    ·exact .inl ((if_neg hb).trans (if_neg hb2))
  ·by_cases hb:b=a
   ·exact hb
   ·exact absurd (if_neg hb) z
  ·by_cases hb:b∈tabs.map (·.2)
   ·exact .inr hb
   ·by_cases hb2:b=a
    ·exact .inl hb2
    ·exact absurd ((if_neg hb).trans (if_neg hb2)) z
def zki{l:PySem.W.OpenLaw}{n k:Nat}{q:Program}{loose:List Str}{XP:(Str->Option Value)->Heap->Prop}{YP:World->Heap->Prop}{d:DefRec}{K:Params->PySem.W.Frag}{CX:World->CXT}{sp:World->Sp}{x:Str}{tabs:List (Addr×Addr)}
  (hn:l.most=some n) (hn2:n<=sizeLine) (hdf:d.params.defaults=[]) (hr:Room k callerA)
  (hY:∀(w:World) (h:Heap),YP w h->(K w.params).In h) (hnt:∀w:World,PySem.W.noTabs (K w.params)=true)
  (hT:∀(w:World) (mg mb:Z6) (mean:ExcName->Option Value) (h:Heap),(K w.params).In h->Top q (PySem.W.looseW q loose) mean mg mb h->PySem.W.TabsAt tabs h)
  (F:∀(w:World) (mg:Z6) (fa:Addr) (h:Heap),(K w.params).In h->h.Ns mainGlobals mg->mg d.name=some (.ref fa) →
   ∃fd:FuncData,(∀(s:Shared) (u:Value),BindsTo s fd ⟨[u],[]⟩ [(x,u)]) ∧
    ∀base:Heap,(K w.params).In base->base.Ns mainGlobals mg->zlV mg base->(∀q∈tabs,PySem.W.CodeHd base q.1 q.2)->FnOk l.prog w (K w.params) mg base (CX w) k fa fd [x] (sp w))
  (hsp:∀(w:World) (H:Hp) (a:Addr) (ns:List Int),ns.length<=n->zlS tabs H->(∀q∈tabs,H q.2=some (.tbl #[]))->(∀q∈tabs,q.2≠a)->SqL (K w.params) H a (ns.map V.int)->sp w [.ref a] H (fun v _=>v=.bl true) fun _ _ _=>False)
  (hCX:∀(w:World) (H:Hp) (s:Shared) (e:Value) (s':Shared),CX w [] H s (fun _ _ _=>False) e s'->False) :
  PySem.W.WalkO q loose XP YP l.row.toRowW d [] (fun f vs=>PySem.call f vs):=by
 refine Att.zgt hn hdf fun w s₀ s₁ mg mb fa o pm cd doc a vs ns G Y ho hd hcd hmg hobj hints hlen hg=>?_
 have KX:=hY w _ Y;obtain ⟨fd,hb,hF⟩:=F w mg fa _ KX G.T.g hmg;exact zjl KX G.T.g G.T.b G.T.builtins G.T.nolimit hg hobj hints (yas hlen hn2) hr (hT w mg mb _ _ KX G.T) (hnt w) G.T.bmain hF hb (fun H hO hTb hne hS=>hsp w H a ns hlen hO hTb hne hS) fun H e s'=>hCX w H s₁ e s'
end L2
namespace S2
open PySem PySem.Spec PyProof.Rows L2
structure Tab where
 con:List (Str×D)
 blt:List Str
 exc:List Str
 und:List (Str×Str)
 rz:List Str
 fk:List (Str×Str)
 df:List Str
 ds:List Str
noncomputable def zrT(rz exc:List Str)(c C:Str):Option Bool:=if rz.contains c then (if C = "ValueError" then some true else if exc.contains C then some (decide (C=c)||decide (C = "FloorError")) else none) else none
noncomputable def zfT(l:List (Str×Str))(c C:Str):Bool:=l.contains (c,C)
structure Fn3 where
 cur:Str
 fs:List (Str×FnI)
 ms:List (Str×Str×FnI)
 ks:List (Str×List D×FnI)
def Gn(T:Tab)(F:Fn3):Genv:=⟨fun x=>T.con.lookup x,fun x=>F.fs.lookup x,fun x=>T.blt.contains x,fun x=>T.exc.contains x,zfT T.und,zrT T.rz T.exc,⟨F.cur,zfT T.fk,fun f=>T.df.contains f,fun m=>F.ms.lookup m,fun c=>F.ks.lookup c⟩,fun x=>T.ds.contains x,fun _=>none,none⟩
noncomputable def Fn3.fn(F:Fn3)(x:Str)(fi:FnI):Fn3:=⟨F.cur,(x,fi)::F.fs,F.ms,F.ks⟩
section
variable{cl:Cf}{T:Tab}{P:Program}{wo:PySem.World}{K:PySem.W.Frag}{mg:Z6}{base:Heap}{k:Nat}{fs:Fn3}
def zc0{α:Type}{a:α}{l:List (Str×α)}{b:α}(h:((x,a)::l).lookup y=some b):(y=x/\b=a)\/l.lookup y=some b:=by
 rw [yaw] at h
 cases e:y == x with
 | true=>rw [e] at h;cases h;exact .inl ⟨eq_of_beq e,rfl⟩
 | false=>rw [e] at h;exact .inr h
def zc4{α:Type}{p:α->Prop}:∀x∈([]:List α),p x:=fun _ h=>nomatch h
def zai{α:Type}{p:α->Prop}{a:α}{l:List α}(h:p a)(t:∀x∈l,p x):∀x∈a::l,p x:=fun x hx=>(yan.mp hx).elim (fun e=>e ▸ h) (t x)
theorem zfj{α:Type}{a:α}:∀{l:List (Str×α)},l.lookup x=some a->(x,a)∈l
 | [],h=>by cases h
 | (y,b)::l,h=>by
  rcases zc0 h with ⟨rfl,rfl⟩ | h
  ·exact yaE
  ·exact yar _ (zfj h)
noncomputable def zrv(K:PySem.W.Frag)(cl:Cf)(exc:List Str)(c:Str):Prop:=PySem.W.ExcCls K (cl c)/\PySem.W.kitOne K (.ref (cl c)) (.type "ValueError")=some true/\∀C∈exc,PySem.W.kitOne K (.ref (cl c)) (.ref (cl C))=some (decide (C=c)||decide (C = "FloorError"))
def zxc(hc:∀p∈T.con,∃v u,mg p.1=some u/\zaI v u/\∀w,Shd cl w v p.2)(hb:∀x∈T.blt,mg x=none)(he:∀c∈T.exc,mg c=some (.ref (cl c))/\PySem.W.excIn K (cl c) bmV "ValueError.__new__" = true)(hu:∀p∈T.und,L2.zlQ K (cl p.1) (cl p.2))(hx:∀c∈T.rz,zrv K cl T.exc c)(hfk:∀p∈T.fk,Cls cl.K (cl p.1)/\zcd cl.K (cl p.1) p.2):GOk cl (Gn T ⟨"",[],[],[]⟩) P wo K mg base 0 where
 fk:=fun c f h=>hfk (c,f) (by simpa using (show T.fk.contains (c,f)=true from h))
 mt:=fun m c fi h=>by cases h
 mks:=fun c dds fi h=>by cases h
 tl:=fun _ _ _ h=>by cases h
 con:=fun x d h=>hc (x,d) (zfj h)
 fn:=fun x fi h=>by cases h
 blt:=fun x h=>hb x (by simpa using (show T.blt.contains x=true from h))
 exc:=fun c h=>he c (by simpa using (show T.exc.contains c=true from h))
 und:=fun c C h=>hu (c,C) (by simpa using (show T.und.contains (c,C)=true from h))
 isx:=fun c C b h=>by
  have h':zrT T.rz T.exc c C=some b:=h;unfold zrT at h';split at h'
  ·rename_i hc;obtain ⟨x1,x2,x3⟩:=hx c (by simpa using hc);refine ⟨x1,?_⟩;unfold clsV;split at h'
   ·rename_i hC;cases h';rw [if_pos hC];exact x2
   ·rename_i hC;rw [if_neg hC];split at h'
    ·rename_i hm;cases h';exact x3 C (by simpa using hm)
    ·cases h'
  ·cases h'
def GOk.add(g:GOk cl (Gn T fs) P wo K mg base k)(m:mg x=some (.ref f))(kp:PySem.W.keepIn K (.ref f)=true)(b:zb5 K fd ps [])(F:FnOk P wo K mg base (CXE P wo) (k+1) f fd ps (zfU cl fi.ar fi.own fi.run)) :
  GOk cl (Gn T (fs.fn x fi)) P wo K mg base (k+1) where
 con:=g.con
 fn:=fun y fj h=>by
  rcases zc0 h with ⟨rfl,rfl⟩ | h
  ·exact ⟨f,fd,ps,m,kp,b,F⟩
  ·obtain ⟨f',fd',ps',h1,h2,h3,h4⟩:=g.fn y fj h;exact ⟨f',fd',ps',h1,h2,h3,h4.mono (yb3 _)⟩
 blt:=g.blt
 exc:=g.exc
 und:=g.und
 isx:=g.isx
 fk:=g.fk
 tl:=fun _ _ _ h=>by cases h
 mt:=fun m c fi h=>by
  obtain ⟨f',fd',ps',h1,h2,h3,h4⟩:=g.mt m c fi h;exact ⟨f',fd',ps',h1,h2,h3,h4.mono (yb3 _)⟩
 mks:=fun c dds fi h=>by
  obtain ⟨f',fd',ps',dvs,ds,k',hk,z⟩:=g.mks c dds fi h;exact ⟨f',fd',ps',dvs,ds,k',Nat.le_succ_of_le hk,z⟩
def zjT{C:Addr}{b:List Value}{i:String}(x:PySem.W.excIn K C b i=true):(PySem.W.clsIn K C).isSome=true/\PySem.W.typeIn K (.ref C)=some (.type "type"):=by
 unfold PySem.W.excIn at x;split at x
 ·rename_i d cd sl e;refine ⟨?_,?_⟩
  ·unfold PySem.W.clsIn;rw [e];rfl
  ·show (K.lookup C).map (·.cls)=_;rw [e];rfl
 ·cases x
def zej{C:Addr}{el:Value}{ed:Option Addr}{ec:ClassData}{es:Array (Option Value)}{m:List Value}{v:Value}(lk:K.lookup C=some ⟨el,ed,.cls ec,es⟩)(mr:ec.mro=.ref C::m):PySem.W.subIn K (.ref C) v=some ((Value.ref C::m).contains v):=by
 show PySem.W.mroIn K C v=_;unfold PySem.W.mroIn PySem.W.clsIn;rw [lk];show (if ec.mro.isEmpty then none else some (ec.mro.contains v))=_;rw [mr];rfl
def ziI{a b:Addr}(h:a≠b):(Value.ref a == Value.ref b)=false:=Bool.eq_false_iff.mpr fun z=>h (Value.ref.inj (ybV.mp z))
def zn1{C F:Addr}{el:Value}{ed:Option Addr}{ec:ClassData}{es:Array (Option Value)}(lk:K.lookup C=some ⟨el,ed,.cls ec,es⟩)(mr:ec.mro=.ref C::.ref F::bmV):PySem.W.kitOne K (.ref C) (.type "ValueError")=some true:=by
 have h1:PySem.W.kitMeta "ValueError" = true:=by decide +kernel
 have h0:(Value.ref C == Value.type "ValueError")=false:=by with_unfolding_all rfl
 unfold PySem.W.kitOne PySem.W.kitCls;simp only [h0,h1,zej lk mr];simp
def zn2{C D F:Addr}{el:Value}{ed:Option Addr}{ec:ClassData}{es:Array (Option Value)}{b:List Value}{i:String}(lk:K.lookup C=some ⟨el,ed,.cls ec,es⟩)(mr:ec.mro=.ref C::.ref F::bmV)(x:PySem.W.excIn K D b i=true):PySem.W.kitOne K (.ref C) (.ref D)=some (decide (D=C)||decide (D=F)):=by
 by_cases h:D=C
 ·subst h;unfold PySem.W.kitOne;rw [if_pos (ybw _)];simp
 ·obtain ⟨h1,h2⟩:=zjT x;have h0:=ziI (fun z=>h z.symm:C≠D);unfold PySem.W.kitOne PySem.W.kitCls;simp only [h0,h1,h2,zej lk mr];have e1:(Value.ref D == Value.ref C)=false:=ziI h;simp only [ycu,e1,Bool.false_or,yaA,ybs,ybw,Bool.and_self,ybY,h,decide_false]
  by_cases h4:D=F
  ·subst h4;simp
  ·have e2:(Value.ref D == Value.ref F)=false:=ziI h4;simp only [e2,Bool.false_or,h4,decide_false,Option.some.injEq]
   with_unfolding_all rfl
def zja{c:ClassData}{C F:Addr}{m:List Value}(h:c.mro=.ref C::.ref F::m):c.mro.contains (.ref F)=true:=by
 rw [h,ycu,ycu,ybw,Bool.true_or,Bool.or_true]
def zmE{L:List (Str×Addr)}:∀{C:Str},C∈L.map (·.1)->∃a,L.lookup C=some a/\(C,a)∈L:=by
 induction L with
 | nil=>intro C h;simp at h
 | cons p L ih =>
  intro C h;rw [yaw]
  cases e:C == p.1 with
  | true=>exact ⟨p.2,rfl,by rw [eq_of_beq e];exact yaE⟩
  | false =>
   have:C∈L.map (·.1):=by
    rw [yaR,yan] at h
    rcases h with h | h
    ·rw [h] at e;simp at e
    ·exact h
   obtain ⟨a,h1,h2⟩:=ih this;exact ⟨a,h1,yar _ h2⟩
theorem ziu:∀{L:List (Str×Addr)},(L.map (·.2)).Nodup->∀{C c:Str} {a:Addr},(C,a)∈L->(c,a)∈L->C=c
 | [],_,_,_,_,h,_=>by simp at h
 | p::L,nd,C,c,a,h,h'=>by
  rw [yaR,ybQ] at nd;rw [yan] at h h'
  rcases h with h | h<;>rcases h' with h' | h'
  ·rw [<-h'] at h;exact (Prod.mk.inj h).1
  ·exact absurd (ybd.mpr ⟨_,h',by rw [<-h]⟩) nd.1
  ·exact absurd (ybd.mpr ⟨_,h,by rw [<-h']⟩) nd.1
  ·exact ziu nd.2 h h'
def zho{L:List (Str×Addr)}(nd:(L.map (·.2)).Nodup){C c:Str}(hC:C∈L.map (·.1))(hc:c∈L.map (·.1)):(L.lookup C).getD 0=(L.lookup c).getD 0↔C=c:=by
 obtain ⟨a,h1,h2⟩:=zmE hC;obtain ⟨b,h3,h4⟩:=zmE hc;rw [h1,h3];constructor
 ·intro e;have:a=b:=e;subst this;exact ziu nd h2 h4
 ·rintro rfl;rw [h1] at h3;cases h3;rfl
def zmq{c:Str}{cl:Cf}{exc:List Str}{F:Addr}{el:Value}{ed:Option Addr}{ec:ClassData}{es:Array (Option Value)}
  (lk:K.lookup (cl c)=some ⟨el,ed,.cls ec,es⟩) (mr:ec.mro=.ref (cl c)::.ref F::bmV) (hF:cl "FloorError" = F)
  (ga:PySem.W.findIn K (.ref (cl c)) "__getattribute__" = some (some (.builtin "BaseException.__getattribute__"))) (gt:PySem.W.findIn K (.ref (cl c)) "__getattr__" = some none) (cc:PySem.W.findIn K (.ref (cl c)) "__class__" = some (some (.builtin "object.__class__")))
  (hx:∀C∈exc,PySem.W.excIn K (cl C) bmV "ValueError.__new__" = true) (hi:∀C∈exc,(cl C=cl c↔C=c)/\(cl C=cl "FloorError" ↔ C = "FloorError")):zrv K cl exc c:=by
 refine ⟨⟨ga,gt,cc,?_,?_,_,_,_,_,lk⟩,zn1 lk mr,fun C hC=>?_⟩
 ·rw [zej lk mr];simp
 ·rw [zej lk mr];simp
 ·rw [zn2 lk mr (hx C hC)];obtain ⟨i1,i2⟩:=hi C hC;rw [hF] at i2;simp only [i1,i2]
end
noncomputable def zgI(K:PySem.W.Frag)(tabs:List (Addr×Addr)):Sp:=fun vs H Q _=>∃(a:Addr) (ns:List Int),vs=[.ref a]/\ns.length<=63/\zlS tabs H/\(∀q∈tabs,H q.2=some (.tbl #[]))/\(∀q∈tabs,q.2≠a)/\SqL K H a (ns.map V.int)/\∀H',Q (.bl true) H'
def znY{cl:Cf}{tabs:List (Addr×Addr)}(hc:∀P q,cl.tabs P=some q->P∈tabs.map (·.2)){run:List D->Sto->Out D}(hr:∀l:List Int,l.length<=63->∃S,run [.scr l] []=.ok (.bl true) S):∀vs H Q E,zgI cl.K tabs vs H Q E->zfU cl 1 false run vs H Q E:=by
 rintro vs H Q E ⟨a,ns,rfl,hl,hO,hT,hne,hS,q⟩
 have na:a ∉ tabs.map (·.2):=fun z=>by obtain ⟨p,hp,e⟩:=ybd.mp z;exact hne p hp e
 refine ⟨rfl,⟨fun _=>none,fun _=>none⟩,⟨H,fun b=>if b∈tabs.map (·.2) then some .tab else none,[]⟩,[.scr ns],[],rfl,⟨(fun a o h=>by cases h),(fun a r h=>.inr rfl),rfl,(fun n ob h=>by simp at h),fun P w h=>?_⟩,.cons ?_ .nil,?_⟩
 ·have hP:=hc P w h;obtain ⟨p,hp,rfl⟩:=ybd.mp hP;exact ⟨#[],hT p hp,if_pos hP,trivial,fun pos cv e=>by cases e⟩
 ·rcases hS with (hS | ⟨o,hS⟩) | hS
  ·rcases hO a with z | ⟨o,xs,z⟩ | ⟨z,_⟩
   ·rw [hS] at z;cases z
   ·rw [hS] at z;cases z
   ·rw [hS] at z;cases z
  ·exact .scr hS (if_neg na)
  ·exact .scrK fun H=>.inr hS
 ·obtain ⟨S',e⟩:=hr ns hl;rw [e];intro v w' _ _ r;have r':Shd cl w' v (.bl true):=r;cases r';exact q _
structure FnT(K:PySem.W.Frag)(x q:Str)(st:Stmt)(f:Addr):Prop where
 ex:∃(oc:Value) (od:Option Addr) (kV dc pm:Value) (an:Option Addr) (cd ct:Value) (sl:Array (Option Value)),K.lookup f=some ⟨oc,od,.func (PySem.W.fnOf x q (zaL st) (zay st) (zab st) .none kV dc pm an cd ct),sl⟩/\PySem.W.codeIn K cd q=true/\PySem.W.keepIn K (.ref f)=true/\PySem.W.isFn K (.ref f)=true
structure GFn(K:PySem.W.Frag)(x:Str)(st:Stmt):Prop where
 ex:∃f,PySem.W.nsIn K mainGlobals x=some (some (.ref f))/\FnT K x x st f
structure MFn(K:PySem.W.Frag)(C:Addr)(m q:Str)(st:Stmt):Prop where
 ex:∃f,PySem.W.findIn K (.ref C) m=some (some (.ref f))/\FnT K m q st f
noncomputable def BB(x q:Str)(st:Stmt)(ps:List Str):Prop:=∀(kV doc pm:Value) (an:Option Addr) (cdv ct:Value) (us:List Value),us.length=ps.length->bindArgs (PySem.W.fnOf x q (zaL st) (zay st) (zab st) .none kV doc pm an cdv ct) ⟨us,[]⟩=pure (ps.zip us)
def bb0{p:List Value->Prop}(h:p []):∀us:List Value,us.length=0->p us:=fun us e=>by rw [ybx e];exact h
def bbS{n:Nat}{p:List Value->Prop}(h:∀a:Value,∀us:List Value,us.length=n->p (a::us)):∀us:List Value,us.length=n+1->p us:=fun us e=>by
 cases us with
 | nil=>cases e
 | cons a us=>exact h a us (Nat.succ.inj e)
def bb1{p:List Value->Prop}(h:∀a0:Value,p [a0]):∀us:List Value,us.length=1->p us:=bbS fun a0=>bb0 (h a0)
def bb2{p:List Value->Prop}(h:∀a0 a1:Value,p [a0,a1]):∀us:List Value,us.length=2->p us:=bbS fun a0=>bbS fun a1=>bb0 (h a0 a1)
def bb3{p:List Value->Prop}(h:∀a0 a1 a2:Value,p [a0,a1,a2]):∀us:List Value,us.length=3->p us:=bbS fun a0=>bbS fun a1=>bbS fun a2=>bb0 (h a0 a1 a2)
def bb4{p:List Value->Prop}(h:∀a0 a1 a2 a3:Value,p [a0,a1,a2,a3]):∀us:List Value,us.length=4->p us:=bbS fun a0=>bbS fun a1=>bbS fun a2=>bbS fun a3=>bb0 (h a0 a1 a2 a3)
section
variable{cl:Cf}{T:Tab}{P:Program}{wo:PySem.World}{K:PySem.W.Frag}{mg:Z6}{base:Heap}{k:Nat}{fs:Fn3}
def FnT.un{x q:Str}{st:Stmt}{f:Addr}{ps:List Str}(p:FnT K x q st f)(b:BB x q st ps):∃fd,Fun K x q st f fd/\zb5 K fd ps []/\PySem.W.keepIn K (.ref f)=true/\PySem.W.isFn K (.ref f)=true:=by
 obtain ⟨oc,od,kV,dc,pm,an,cd,ct,sl,l,c,kp,i⟩:=p.ex;have U:=zjD (st:=st) l c kp;exact ⟨_,U,U.binds b,kp,i⟩
def GOk.addG{x:Str}{st:Stmt}{N ps:List Str}{own:Bool}{f_:Fs}{h:Heap}(g:GOk cl (Gn T fs) P wo K mg base k)(X:K.In h)(G:h.Ns mainGlobals mg)(p:GFn K x st)(S:FnScope N ps (zab st))(hK:K=cl.K)(hP:P=cl.P)(hW:wo=cl.wo)(b:BB x x st ps)(hd:zaA (Gn T fs) own N st=some f_) :
  GOk cl (Gn T (fs.fn x ⟨ps.length,own,zb4 N.length own f_⟩)) P wo K mg base (k+1):=by
 obtain ⟨f,a,p⟩:=p.ex;obtain ⟨fd,U,B,kp,_⟩:=p.un b;exact GOk.add g (ybi X G a) kp B (ztl U S g hK hP hW hd)
end
open PySem
open L2 hiding D
noncomputable def zcy:Fs :=
  (zar (sFz [] (zbJ (zhc (eUn (zfq "tuple") (zau 0)) (zbH leD leD (zau 1) (zaZ zfW [(zau 0)]) (zau 2)))))
  sNx)
noncomputable def zbx:List S2.D->Sto->Out S2.D:=zb4 3 false zcy
noncomputable def zfu:Fs :=
  (zar (sFz [] (zbL 1 false (eIf (zal gtD (zaZ zfW [(zau 0)]) (zae (.int 0))) (zaZ zfW [(zal ixD (zau 0) (zae (.int 0)))]) (zae (.int 0)))))
  (zar (sFz [1] (zbJ (za5 [(zaZ zfW [(zau 0)]),(zan 1)])))
  sNx))
noncomputable def ze6:List S2.D->Sto->Out S2.D:=zb4 2 false zfu
noncomputable def zdz:Fs :=
  (zar (sFz [] (zbJ (zal ixD (zal ixD (zau 0) (zal ixD (zau 1) (zae (.int 0)))) (zal ixD (zau 1) (zae (.int 1))))))
  sNx)
noncomputable def zdi:List S2.D->Sto->Out S2.D:=zb4 2 false zdz
noncomputable def zbf:Fs :=
  (zar (sFz [] (sIf (zal ltD (zau 1) (zaZ zfW [(zau 0)])) (zar (sFz [] (zbJ (zal ixD (zau 0) (zau 1)))) sNx) sNx))
  (zar (sFz [] (sIf (zal eqD (zau 0) (zc6 [])) (zar (sFz [] (zbJ (zae (.int 0)))) sNx) sNx))
  (zar (sFz [] (zbJ (zal zda (zal zi8 (zal ixD (zau 0) (zal zfh (zau 1) (zaZ zfW [(zau 0)]))) (zae (.int 31))) (zau 1))))
  sNx)))
noncomputable def za1:List S2.D->Sto->Out S2.D:=zb4 2 false zbf
noncomputable def zck:Fs :=
  (zar (sFz [0,1] (zbL 3 false (zal zfh (zal zi8 (zal zda (eFn za1 [(zan 0),(zan 1)]) (zal zi8 (zae (.int 6151)) (zal zda (zau 1) (zae (.int 1))))) (zae (.int 40692))) (zae (.int 2147483399)))))
  (zar (sFz [] (zbJ (zal zfh (zal zfh (zal zda (zal zi8 (zau 3) (zau 3)) (zal zq5 (zau 3) (zae (.int 31)))) (zae (.int 2147483629))) (zau 2))))
  sNx))
noncomputable def zaq:List S2.D->Sto->Out S2.D:=zb4 4 false zck
noncomputable def zd6:Fs :=
  (zar (sFz [] (zbJ (zhc (eUn (zfq "int") (zau 0)) (eUn zfV (eUn (zfq "bool") (zau 0))))))
  sNx)
noncomputable def zbX:List S2.D->Sto->Out S2.D:=zb4 1 false zd6
noncomputable def zc5:Fs :=
  (zar (sFz [1] (zbJ (zhc (eFn zbX [(zan 1)]) (zbH leD ltD (zae (.int 0)) (zau 1) (zaZ zfW [(zau 0)])))))
  sNx)
noncomputable def zbN:List S2.D->Sto->Out S2.D:=zb4 2 false zc5
noncomputable def zdA:Fs :=
  (zar (sFz [1] (sIf (eOr (eUn zfV (eFn zbx [(zan 1),(zae (.int 2)),(zae (.int 2))])) (eOr (eUn zfV (eFn zbX [(zal ixD (zau 1) (zae (.int 0)))])) (eUn zfV (eFn zbX [(zal ixD (zau 1) (zae (.int 1)))])))) (zar (sFz [] (zbJ (zae (.bl false)))) sNx) sNx))
  (zar (sFz [0] (zbL 2 false (eFn ze6 [(zan 0)])))
  (zar (sFz [] (zbJ (zhc (zbH leD ltD (zae (.int 0)) (zal ixD (zau 1) (zae (.int 0))) (zal ixD (zau 2) (zae (.int 0)))) (zbH leD ltD (zae (.int 0)) (zal ixD (zau 1) (zae (.int 1))) (zal ixD (zau 2) (zae (.int 1)))))))
  sNx)))
noncomputable def zdj:List S2.D->Sto->Out S2.D:=zb4 3 false zdA
noncomputable def zfv:Fs :=
  (zar (sFz [0,1] (zbJ (eOr (zal zqK (zau 1) (zae .non)) (eFn zbN [(zan 0),(zan 1)]))))
  sNx)
noncomputable def ze7:List S2.D->Sto->Out S2.D:=zb4 2 false zfv
noncomputable def zbG:Fs :=
  (zar (sFz [0,1] (sIf (eUn zfV (eFn zdj [(zan 0),(zan 1)])) (zar (sFz [] (sRz "NoPlace" [(zae (.str "there is no such place"))])) sNx) sNx))
  sNx)
noncomputable def zbD:List S2.D->Sto->Out S2.D:=zb4 2 false zbG
noncomputable def zcx:Fs :=
  (zar (sFz [] (zbL 3 false (zal ixD (zau 0) (zal ixD (zau 1) (zae (.int 0))))))
  (zar (sFz [2] (zbL 4 false (zal zda (zal zda (eSl (zau 3) none (some (zal ixD (zau 1) (zae (.int 1))))) (za5 [(zan 2)])) (eSl (zau 3) (some (zal zda (zal ixD (zau 1) (zae (.int 1))) (zae (.int 1)))) none))))
  (zar (sFz [4] (zbJ (zal zda (zal zda (eSl (zau 0) none (some (zal ixD (zau 1) (zae (.int 0))))) (za5 [(zan 4)])) (eSl (zau 0) (some (zal zda (zal ixD (zau 1) (zae (.int 0))) (zae (.int 1)))) none))))
  sNx)))
noncomputable def zbw:List S2.D->Sto->Out S2.D:=zb4 5 false zcx
noncomputable def zft:Fs :=
  (zar (sFz [0,1] (zl5 (eFn zbD [(zan 0),(zan 1)])))
  (zar (sFz [0,1] (zbJ (eFn zdi [(zan 0),(zan 1)])))
  sNx))
noncomputable def zdh:List S2.D->Sto->Out S2.D:=zb4 2 false zft
noncomputable def Fo.seq(b:Fs):Fo->Fo | .nx ρ' S'=>b ρ' S' | o=>o
def zrR(a b:Fs)(ρ:Env):Out D->Fo | .ok d S'=>(match isB d with | some true=>a ρ S' | some false=>b ρ S' | none=>.bad) | .exc x S'=>.ex x ρ S' | .bad=>.bad
noncomputable def zs9(i:Nat)(o:Bool)(ρ:Env):Out D->Fo | .ok d S'=>.nx (ρ.set i (some (o,d))) S' | .exc c S'=>.ex c ρ S' | .bad=>.bad
noncomputable def zs7(ρ:Env):Out D->Fo | .ok _ S'=>.nx ρ S' | .exc c S'=>.ex c ρ S' | .bad=>.bad
noncomputable def zs5(ρ:Env):Out D->Fo | .ok d S'=>.rt d S' | .exc c S'=>.ex c ρ S' | .bad=>.bad
noncomputable def zqE(S:Sto):Option (Option (Bool×D))->Fo | some (some (true,d))=>.rt d S | _=>.bad
def zlf(i:Nat)(ρ:Env)(l:List D):Out D->Fo
 | .ok d S'=>if small l.length then .nx (ρ.set i (some (true,.lst (l++[d])))) S' else .bad
 | .exc c S'=>.ex c ρ S' | .bad=>.bad
noncomputable def zvA(i:Nat)(f:Fe)(ρ:Env)(S:Sto):Option (Option (Bool×D))->Fo | some (some (true,.lst l))=>zlf i ρ l (f ρ S) | _=>.bad
def zn5(i:Nat)(ρ:Env)(l:List D):Out D->Fo
 | .ok (.lst k) S'=>if small (l.length+k.length) then .nx (ρ.set i (some (true,.lst (l++k)))) S' else .bad
 | .ok _ _=>.bad
 | .exc c S'=>.ex c ρ S' | .bad=>.bad
noncomputable def zvx(i:Nat)(f:Fe)(ρ:Env)(S:Sto):Option (Option (Bool×D))->Fo | some (some (true,.lst l))=>zn5 i ρ l (f ρ S) | _=>.bad
noncomputable def zn4(i j:Nat)(o1 o2:Bool)(d1:D)(ρ:Env):Out D->Fo | .ok d2 S2=>.nx ((ρ.set i (some (o1,d1))).set j (some (o2,d2))) S2 | .exc c S'=>.ex c ρ S' | .bad=>.bad
noncomputable def zvt(i j:Nat)(o1 o2:Bool)(g:Fe)(ρ:Env):Out D->Fo | .ok d1 S1=>zn4 i j o1 o2 d1 ρ (g ρ S1) | .exc c S'=>.ex c ρ S' | .bad=>.bad
noncomputable def zs6(S:Sto):Option Env->Fo | some ρ'=>.nx ρ' S | none=>.bad
def zoa(t:Tg)(ρ:Env):Out D->Fo | .ok d S'=>zs6 S' (t.put ρ d) | .exc c S'=>.ex c ρ S' | .bad=>.bad
noncomputable def zvw(t:Tg)(a:Fs)(ρ:Env):Out (List D)->Fo | .ok ds S'=>zh8 t a ds ρ S' | .exc c S'=>.ex c ρ S' | .bad=>.bad
noncomputable def zvr(S:Sto):Option (Option (Bool×D))->Out D | some (some (false,d))=>.ok d S | _=>.bad
noncomputable def zvz(S:Sto):Option (Option (Bool×D))->Out D | some (some (_,d))=>.ok d S | _=>.bad
def kUn(u:D->Option D):Out D->Out D | .ok a S=>Out.of (u a) S | .exc c S=>.exc c S | .bad=>.bad
def zjp(u:D->D->Option D)(a:D):Out D->Out D | .ok b S=>Out.of (u a b) S | .exc c S=>.exc c S | .bad=>.bad
noncomputable def zs8(u:D->D->Option D)(g:Fe)(ρ:Env):Out D->Out D | .ok a S=>zjp u a (g ρ S) | .exc c S=>.exc c S | .bad=>.bad
def kIf(f g:Fe)(ρ:Env):Out D->Out D | .ok d S1=>(match isB d with | some true=>f ρ S1 | some false=>g ρ S1 | none=>.bad) | .exc c S=>.exc c S | .bad=>.bad
def zta(g:Fe)(ρ:Env):Out D->Out D | .ok d S1=>(match isB d with | some true=>g ρ S1 | some false=>.ok (.bl false) S1 | none=>.bad) | .exc c S=>.exc c S | .bad=>.bad
def kOr(g:Fe)(ρ:Env):Out D->Out D | .ok d S1=>(match isB d with | some true=>.ok (.bl true) S1 | some false=>g ρ S1 | none=>.bad) | .exc c S=>.exc c S | .bad=>.bad
noncomputable def zfm(d:D):Out (List D)->Out (List D) | .ok ds S=>.ok (d::ds) S | .exc c S=>.exc c S | .bad=>.bad
def zn7(fs:List Fe)(ρ:Env):Out D->Out (List D) | .ok d S=>zfm d (zag fs ρ S) | .exc c S=>.exc c S | .bad=>.bad
def zvs:Out (List D)->Out D | .ok ds S=>if small ds.length then .ok (.tup ds) S else .bad | .exc c S=>.exc c S | .bad=>.bad
def zvu:Out (List D)->Out D | .ok ds S=>if small ds.length then .ok (.lst ds) S else .bad | .exc c S=>.exc c S | .bad=>.bad
def zn9(u:List D->Option D):Out (List D)->Out D | .ok ds S=>Out.of (u ds) S | .exc c S=>.exc c S | .bad=>.bad
noncomputable def kFn(r:List D->Sto->Out D):Out (List D)->Out D | .ok ds S=>r ds S | .exc c S=>.exc c S | .bad=>.bad
def zdt(v:D->D->Option D)(b:D):Out D->Out D | .ok c S=>Out.of (v b c) S | .exc c S=>.exc c S | .bad=>.bad
def zds(v:D->D->Option D)(h:Fe)(ρ:Env)(b:D)(S:Sto):Option D->Out D | some d=>(match isB d with | some true=>zdt v b (h ρ S) | some false=>.ok (.bl false) S | none=>.bad) | none=>.bad
noncomputable def zeB(u v:D->D->Option D)(h:Fe)(ρ:Env)(a:D):Out D->Out D | .ok b S=>zds v h ρ b S (u a b) | .exc c S=>.exc c S | .bad=>.bad
noncomputable def zmn(u v:D->D->Option D)(g h:Fe)(ρ:Env):Out D->Out D | .ok a S=>zeB u v h ρ a (g ρ S) | .exc c S=>.exc c S | .bad=>.bad
noncomputable def zvv:Out D->Out (Option Int) | .ok (.int i) S=>.ok (some i) S | .ok _ _=>.bad | .exc c S=>.exc c S | .bad=>.bad
def zrN(d:D)(l:Option Int):Out (Option Int)->Out D | .ok u S=>Out.of (slD d l u) S | .exc c S=>.exc c S | .bad=>.bad
def zrO(d:D)(u:Option Fe)(ρ:Env):Out (Option Int)->Out D | .ok l S=>zrN d l (zbK u ρ S) | .exc c S=>.exc c S | .bad=>.bad
def kSl(l u:Option Fe)(ρ:Env):Out D->Out D | .ok d S=>zrO d u ρ (zbK l ρ S) | .exc c S=>.exc c S | .bad=>.bad
noncomputable def zg5:Out D->Out (List D) | .ok (.lst l) S=>.ok l S | .ok (.tup l) S=>.ok l S | .ok (.scr l) S=>.ok (l.map D.int) S | .ok _ _=>.bad | .exc c S=>.exc c S | .bad=>.bad
def zn6:Out (List D)->Out (List D) | .ok [.lst l] S=>.ok (zcS l) S | .ok [.tup l] S=>.ok (zcS l) S | .ok _ _=>.bad | .exc c S=>.exc c S | .bad=>.bad
def zvq:Out (List D)->Out (List D) | .ok ds S1=>(match ds with | [.tup l,.tup k]=>.ok (zfX l k) S1 | _=>.bad) | .exc c S=>.exc c S | .bad=>.bad
def zqD:Out (List D)->Out (List D) | .ok ds S1=>(match ds with | [.int j]=>if -1000000<=j/\j<=1000000 then .ok (zbC 0 j) S1 else .bad | _=>.bad) | .exc c S=>.exc c S | .bad=>.bad
def zqC:Out (List D)->Out (List D) | .ok ds S1=>(match ds with | [.int i,.int j]=>if (-1000000<=i/\i<=1000000)/\-1000000<=j/\j<=1000000 then .ok (zbC i j) S1 else .bad | _=>.bad) | .exc c S=>.exc c S | .bad=>.bad
def zqB:Out (List D)->Out (List D) | .ok ds S1=>(match ds with | [.int i,.int j,.int c]=>if i=0/\0<=j/\j<=1000/\1<=c/\c<=1000 then .ok (zdg j c) S1 else .bad | _=>.bad) | .exc c S=>.exc c S | .bad=>.bad
def zjo:Out (List D)->Out D | .ok ys S2=>if small ys.length then .ok (.lst ys) S2 else .bad | _=>.bad
def zn8(tg:Tg)(c elt:Fe)(ρ0:Env):Out (List D)->Out D | .ok ds S1=>zjo (zdR tg c elt ρ0 ds S1) | .exc c S=>.exc c S | .bad=>.bad
noncomputable def zvy:Option (Option (Bool×D))->Option (Bool×D) | some (some (false,d))=>some (false,d) | _=>none
noncomputable def zrS(ρ:Env)(i:Nat):Option (Option (Bool×D))->Env | some (some (true,d))=>ρ.set i (some (false,d)) | _=>ρ
noncomputable def zrP(own:Bool):Fo->Out D | .rt d S'=>.ok d S' | .nx _ S'=>if own then .bad else .ok .non S' | .ex c _ S'=>.exc c S' | _=>.bad
def kRz(c:Str)(ρ:Env):Out (List D)->Fo | .ok ds S'=>if small ds.length then .ex c ρ S' else .bad | .exc x S'=>.ex x ρ S' | .bad=>.bad
def zrQ(u:List D->D->Option D)(l:List D):Out D->Out D | .ok d S=>Out.of (u l d) S | .exc c S=>.exc c S | .bad=>.bad
noncomputable def kMt(u:List D->D->Option D)(f:Fe)(ρ:Env)(S:Sto):Option (Option (Bool×D))->Out D | some (some (_,.lst l))=>zrQ u l (f ρ S) | _=>.bad
section
variable{ρ:Env}{S:Sto}{f g h k c:Fe}{a b:Fs}
@[simp] def zwc:eMt u i f ρ S=kMt u f ρ S ρ[i]?:=by
 show (match ρ[i]? with | some (some (_,.lst l))=>(f ρ S).bind fun d S1=>Out.of (u l d) S1 | _=>.bad)=_
 cases ρ[i]? with
 | none=>rfl
 | some o=>cases o with
  | none=>rfl
  | some p =>
   obtain ⟨b,d⟩:=p
   cases d with
   | lst l=>show ((f ρ S).bind fun d S1=>Out.of (u l d) S1)=zrQ u l (f ρ S);cases f ρ S<;>rfl
   | _=>rfl
@[simp] def zxx:kMt u f ρ S (some (some (o,.lst l)))=zrQ u l (f ρ S):=(rfl)
@[simp] def zwN:zrQ u l (.ok d S)=Out.of (u l d) S:=(rfl)
@[simp] def ztO:zar a b ρ S=(a ρ S).seq b:=by
 show (match a ρ S with | .nx ρ' S'=>b ρ' S' | o=>o)=_
 cases a ρ S<;>rfl
@[simp] def zuU:(Fo.nx ρ S).seq b=b ρ S:=(rfl)
@[simp] def zuT:(Fo.rt d S).seq b=.rt d S:=(rfl)
@[simp] def zuS:(Fo.bk ρ S).seq b=.bk ρ S:=(rfl)
@[simp] def zuR:(Fo.ct ρ S).seq b=.ct ρ S:=(rfl)
@[simp] def zuQ:(Fo.ex x ρ S).seq b=.ex x ρ S:=(rfl)
@[simp] def zuP:Fo.bad.seq b=.bad:=(rfl)
@[simp] def zsb:zlu ρ S=.ok (zoM []) S:=(rfl)
@[simp] def zvT:sFz is a ρ S=a (frz is ρ) S:=(rfl)
@[simp] def zug:frz [] ρ=ρ:=(rfl)
@[simp] def zuf:frz (i::is) ρ=frz is (frz1 ρ i):=(rfl)
@[simp] def zv7(i:Nat):frz1 ρ i=zrS ρ i ρ[i]?:=(rfl)
@[simp] def zva:zrS ρ i (some (some (true,d)))=ρ.set i (some (false,d)):=(rfl)
@[simp] def zu9:zrS ρ i (some (some (false,d)))=ρ:=(rfl)
@[simp] def zu8:zrS ρ i (some none)=ρ:=(rfl)
@[simp] def zvR:sNx ρ S=.nx ρ S:=(rfl)
@[simp] def zvU:sBk ρ S=.bk ρ S:=(rfl)
@[simp] def ztU:zbL i o f ρ S=zs9 i o ρ (f ρ S):=(rfl)
@[simp] def zvl:zs9 i o ρ (.ok d S)=.nx (ρ.set i (some (o,d))) S:=(rfl)
@[simp] def zvk:zs9 i o ρ (.exc x S)=.ex x ρ S:=(rfl)
@[simp] def ztT:zl5 f ρ S=zs7 ρ (f ρ S):=(rfl)
@[simp] def zvd:zs7 ρ (.ok d S)=.nx ρ S:=(rfl)
@[simp] def zvc:zs7 ρ (.exc x S)=.ex x ρ S:=(rfl)
@[simp] def ztP:zbJ f ρ S=zs5 ρ (f ρ S):=(rfl)
@[simp] def zu3:zs5 ρ (.ok d S)=.rt d S:=(rfl)
@[simp] def zu2:zs5 ρ (.exc x S)=.ex x ρ S:=(rfl)
@[simp] def zr6:zky ρ S=.rt .non S:=(rfl)
@[simp] def zr5:zkx i ρ S=zqE S ρ[i]?:=(rfl)
@[simp] def zu1:zqE S (some (some (true,d)))=.rt d S:=(rfl)
@[simp] def zvS:sIf c a b ρ S=zrR a b ρ (c ρ S):=(rfl)
@[simp] def zu7:zrR a b ρ (.ok (.bl true) S)=a ρ S:=(rfl)
@[simp] def zu6:zrR a b ρ (.ok (.bl false) S)=b ρ S:=(rfl)
@[simp] def zu5:zrR a b ρ (.exc x S)=.ex x ρ S:=(rfl)
@[simp] def ztV:zgP i f ρ S=zvA i f ρ S ρ[i]?:=(rfl)
@[simp] def zw8:zvA i f ρ S (some (some (true,.lst l)))=zlf i ρ l (f ρ S):=(rfl)
@[simp] def zvn:zlf i ρ l (.ok d S)=if small l.length then .nx (ρ.set i (some (true,.lst (l++[d])))) S else .bad:=(rfl)
@[simp] def zvm:zlf i ρ l (.exc x S)=.ex x ρ S:=(rfl)
@[simp] def ztS{i:Nat}:zrG i f ρ S=zvx i f ρ S ρ[i]?:=(rfl)
@[simp] def zwY:zvx i f ρ S (some (some (true,.lst l)))=zn5 i ρ l (f ρ S):=(rfl)
@[simp] def zvb{l k:List D}:zn5 i ρ l (.ok (.lst k) S)=if small (l.length+k.length) then .nx (ρ.set i (some (true,.lst (l++k)))) S else .bad:=(rfl)
@[simp] def ztQ:zrF i j o1 f o2 g ρ S=zvt i j o1 o2 g ρ (f ρ S):=(rfl)
@[simp] def zwK:zvt i j o1 o2 g ρ (.ok d S)=zn4 i j o1 o2 d ρ (g ρ S):=(rfl)
@[simp] def zu4:zn4 i j o1 o2 d ρ (.ok e S)=.nx ((ρ.set i (some (o1,d))).set j (some (o2,e))) S:=(rfl)
@[simp] def zr7:ze4 t f ρ S=zoa t ρ (f ρ S):=by
 unfold ze4 zoa
 cases f ρ S with
 | ok d S'=>dsimp only;cases t.put ρ d<;>rfl
 | exc c S'=>rfl
 | bad=>rfl
@[simp] def zvj:zoa t ρ (.ok d S)=zs6 S (t.put ρ d):=(rfl)
@[simp] def zwJ:zs6 S (some ρ')=.nx ρ' S:=(rfl)
@[simp] def ztR:zl4 t it a ρ S=zvw t a ρ (it ρ S):=(rfl)
@[simp] def zwV:zvw t a ρ (.ok ds S)=zh8 t a ds ρ S:=(rfl)
@[simp] def zvQ:sRz x fs ρ S=kRz x ρ (zag fs ρ S):=(rfl)
@[simp] def zxw:kRz x ρ (.ok ds S)=if small ds.length then .ex x ρ S else .bad:=(rfl)
@[simp] def zt3:(Tg.one i).put ρ d=some (ρ.set i (some (false,d))):=(rfl)
@[simp] def zt0:(Tg.tup is).put ρ (.tup ds)=zcY is ds ρ:=(rfl)
@[simp] def zt2:zcY (i::is) (d::ds) ρ=zcY is ds (ρ.set i (some (false,d))):=(rfl)
@[simp] def zt1:zcY [] [] ρ=some ρ:=(rfl)
@[simp] def zui:zan i ρ S=zvr S ρ[i]?:=(rfl)
@[simp] def zwD:zvr S (some (some (false,d)))=.ok d S:=(rfl)
@[simp] def zum:zau i ρ S=zvz S ρ[i]?:=(rfl)
@[simp] def zw7:zvz S (some (some (o,d)))=.ok d S:=(rfl)
@[simp] def zul:zae d ρ S=.ok d S:=(rfl)
@[simp] def zv9:eUn u f ρ S=kUn u (f ρ S):=by
 unfold eUn;cases f ρ S<;>rfl
@[simp] def zwF:kUn u (.ok d S)=Out.of (u d) S:=(rfl)
@[simp] def zwE:kUn u (.exc x S)=.exc x S:=(rfl)
@[simp] def zun:zal u f g ρ S=zs8 u g ρ (f ρ S):=by
 unfold zal
 cases f ρ S with
 | ok a S1=>show ((g ρ S1).bind fun b S2=>Out.of (u a b) S2)=zjp u a (g ρ S1);cases g ρ S1<;>rfl
 | exc c S=>rfl
 | bad=>rfl
@[simp] def zvi:zs8 u g ρ (.ok d S)=zjp u d (g ρ S):=(rfl)
@[simp] def zvh:zs8 u g ρ (.exc x S)=.exc x S:=(rfl)
@[simp] def zvg:zjp u d (.ok e S)=Out.of (u d e) S:=(rfl)
@[simp] def zvf:zjp u d (.exc x S)=.exc x S:=(rfl)
@[simp] def zwd:eIf c f g ρ S=kIf f g ρ (c ρ S):=by
 unfold eIf;cases c ρ S<;>rfl
@[simp] def zwU:kIf f g ρ (.ok (.bl true) S)=f ρ S:=(rfl)
@[simp] def zwT:kIf f g ρ (.ok (.bl false) S)=g ρ S:=(rfl)
@[simp] def zuo:zhc f g ρ S=zta g ρ (f ρ S):=by
 unfold zhc;cases f ρ S<;>rfl
@[simp] def zvp:zta g ρ (.ok (.bl true) S)=g ρ S:=(rfl)
@[simp] def zvo:zta g ρ (.ok (.bl false) S)=.ok (.bl false) S:=(rfl)
@[simp] def zwb:eOr f g ρ S=kOr g ρ (f ρ S):=by
 unfold eOr;cases f ρ S<;>rfl
@[simp] def zwM:kOr g ρ (.ok (.bl true) S)=.ok (.bl true) S:=(rfl)
@[simp] def zwL:kOr g ρ (.ok (.bl false) S)=g ρ S:=(rfl)
@[simp] def zr9:zag [] ρ S=.ok [] S:=(rfl)
@[simp] def zsa:zag (f::fs) ρ S=zn7 fs ρ (f ρ S):=by
 show ((f ρ S).bind fun d S1=>(zag fs ρ S1).bind fun ds S2=>.ok (d::ds) S2)=_
 cases f ρ S with
 | ok a S1=>show ((zag fs ρ S1).bind fun ds S2=>.ok (a::ds) S2)=zfm a (zag fs ρ S1);cases zag fs ρ S1<;>rfl
 | exc c S=>rfl
 | bad=>rfl
@[simp] def zs1:zn7 fs ρ (.ok d S)=zfm d (zag fs ρ S):=(rfl)
@[simp] def zs0:zn7 fs ρ (.exc x S)=.exc x S:=(rfl)
@[simp] def zsZ:zfm d (.ok ds S)=.ok (d::ds) S:=(rfl)
@[simp] def zsY:zfm d (.exc x S)=.exc x S:=(rfl)
@[simp] def zuj:za5 fs ρ S=zvs (zag fs ρ S):=by
 unfold za5;cases zag fs ρ S<;>rfl
@[simp] def zwG:zvs (.ok ds S)=if small ds.length then .ok (.tup ds) S else .bad:=(rfl)
@[simp] def zuk:zc6 fs ρ S=zvu (zag fs ρ S):=by
 unfold zc6;cases zag fs ρ S<;>rfl
@[simp] def zwO:zvu (.ok ds S)=if small ds.length then .ok (.lst ds) S else .bad:=(rfl)
@[simp] def zsc:zaZ u fs ρ S=zn9 u (zag fs ρ S):=by
 unfold zaZ;cases zag fs ρ S<;>rfl
@[simp] def zs4:zn9 u (.ok ds S)=Out.of (u ds) S:=(rfl)
@[simp] def zs3:zn9 u (.exc x S)=.exc x S:=(rfl)
@[simp] def zwe:eFn r fs ρ S=kFn r (zag fs ρ S):=by
 unfold eFn;cases zag fs ρ S<;>rfl
@[simp] def zwX:kFn r (.ok ds S)=r ds S:=(rfl)
@[simp] def zwW:kFn r (.exc x S)=.exc x S:=(rfl)
@[simp] def zrz:zbH u v f g h ρ S=zmn u v g h ρ (f ρ S):=by
 show ((f ρ S).bind fun a S1=>(g ρ S1).bind fun b S2=>match (u a b).bind isB with
  | some true=>(h ρ S2).bind fun c S3=>Out.of (v b c) S3
  | some false=>.ok (.bl false) S2
  | none=>.bad)=_
 cases f ρ S with
 | ok a S1 =>
  show ((g ρ S1).bind fun b S2=>match (u a b).bind isB with
   | some true=>(h ρ S2).bind fun c S3=>Out.of (v b c) S3
   | some false=>.ok (.bl false) S2
   | none=>.bad)=zeB u v h ρ a (g ρ S1)
  cases g ρ S1 with
  | ok b S2 =>
   show (match (u a b).bind isB with
    | some true=>(h ρ S2).bind fun c S3=>Out.of (v b c) S3
    | some false=>.ok (.bl false) S2
    | none=>.bad)=zds v h ρ b S2 (u a b)
   cases hu:u a b with
   | none=>rfl
   | some d =>
    show (match isB d with
     | some true=>(h ρ S2).bind fun c S3=>Out.of (v b c) S3
     | some false=>.ok (.bl false) S2
     | none=>.bad)=(match isB d with | some true=>zdt v b (h ρ S2) | some false=>.ok (.bl false) S2 | none=>.bad)
    cases hb:isB d with
    | none=>rfl
    | some x=>cases x with
     | true=>show ((h ρ S2).bind fun c S3=>Out.of (v b c) S3)=zdt v b (h ρ S2);cases h ρ S2<;>rfl
     | false=>rfl
  | exc c S=>rfl
  | bad=>rfl
 | exc c S=>rfl
 | bad=>rfl
@[simp] def zw5:zmn u v g h ρ (.ok d S)=zeB u v h ρ d (g ρ S):=(rfl)
@[simp] def zw4:zeB u v h ρ d (.ok e S)=zds v h ρ e S (u d e):=(rfl)
@[simp] def zw3:zds v h ρ e S (some (.bl true))=zdt v e (h ρ S):=(rfl)
@[simp] def zw2:zds v h ρ e S (some (.bl false))=.ok (.bl false) S:=(rfl)
@[simp] def zw1:zdt v e (.ok d S)=Out.of (v e d) S:=(rfl)
@[simp] def zry:zbK none ρ S=.ok none S:=(rfl)
@[simp] def zrx:zbK (some f) ρ S=zvv (f ρ S):=by
 show ((f ρ S).bind fun d S1=>match d with | .int i=>.ok (some i) S1 | _=>.bad)=_
 cases f ρ S with
 | ok d S'=>cases d<;>rfl
 | exc c S'=>rfl
 | bad=>rfl
@[simp] def zwS:zvv (.ok (.int i) S)=.ok (some i) S:=(rfl)
@[simp] def zwa:eSl f l u ρ S=kSl l u ρ (f ρ S):=by
 unfold eSl
 cases f ρ S with
 | ok d S1 =>
  show ((zbK l ρ S1).bind fun l S2=>(zbK u ρ S2).bind fun u S3=>Out.of (slD d l u) S3)=zrO d u ρ (zbK l ρ S1)
  cases zbK l ρ S1 with
  | ok l S2=>show ((zbK u ρ S2).bind fun u S3=>Out.of (slD d l u) S3)=zrN d l (zbK u ρ S2);cases zbK u ρ S2<;>rfl
  | exc c S=>rfl
  | bad=>rfl
 | exc c S=>rfl
 | bad=>rfl
@[simp] def zxv:kSl l u ρ (.ok d S)=zrO d u ρ (zbK l ρ S):=(rfl)
@[simp] def zwI:zrO d u ρ (.ok l S)=zrN d l (zbK u ρ S):=(rfl)
@[simp] def zwH:zrN d l (.ok u S)=Out.of (slD d l u) S:=(rfl)
@[simp] def zr8:za7 f ρ S=zg5 (f ρ S):=by
 show ((f ρ S).bind fun d S1=>match d with | .lst l=>.ok l S1 | .tup l=>.ok l S1 | .scr l=>.ok (l.map D.int) S1 | _=>.bad)=_
 cases f ρ S with
 | ok d S'=>cases d<;>rfl
 | exc c S'=>rfl
 | bad=>rfl
@[simp] def zwP{l:List Int}:zg5 (.ok (.scr l) S)=.ok (l.map D.int) S:=(rfl)
@[simp] def ztZ{l:List D}:zkB (.lst l) (.int (-1))=some (.lst l.reverse):=(rfl)
@[simp] def zwR:zg5 (.ok (.lst l) S)=.ok l S:=(rfl)
@[simp] def zwQ:zg5 (.ok (.tup l) S)=.ok l S:=(rfl)
@[simp] def zuh:zjO f ρ S=zn6 (zag [f] ρ S):=by
 show ((zag [f] ρ S).bind fun ds S1=>match ds with | [.lst l]=>.ok (zcS l) S1 | [.tup l]=>.ok (zcS l) S1 | _=>.bad)=_
 cases zag [f] ρ S with
 | ok ds S' =>
  cases ds with
  | nil=>rfl
  | cons d ds=>cases ds with
   | nil=>cases d<;>rfl
   | cons e ds=>cases d<;>rfl
 | exc c S'=>rfl
 | bad=>rfl
@[simp] def zw0:zn6 (.ok [.lst l] S)=.ok (zcS l) S:=(rfl)
@[simp] def zwZ:zn6 (.ok [.tup l] S)=.ok (zcS l) S:=(rfl)
@[simp] def zvL:zq0 f g ρ S=zvq (zag [f,g] ρ S):=by
 unfold zq0;cases zag [f,g] ρ S<;>rfl
@[simp] def zuO{l k:List D}:zvq (.ok [.tup l,.tup k] S)=.ok (zfX l k) S:=(rfl)
@[simp] def ztY:zgm f ρ S=zqD (zag [f] ρ S):=by
 unfold zgm;cases zag [f] ρ S<;>rfl
@[simp] def zu0:zqD (.ok [.int j] S)=if -1000000<=j/\j<=1000000 then .ok (zbC 0 j) S else .bad:=(rfl)
@[simp] def ztX:zjL f g ρ S=zqC (zag [f,g] ρ S):=by
 unfold zjL;cases zag [f,g] ρ S<;>rfl
@[simp] def zuZ:zqC (.ok [.int i,.int j] S)=if (-1000000<=i/\i<=1000000)/\-1000000<=j/\j<=1000000 then .ok (zbC i j) S else .bad:=(rfl)
@[simp] def ztW:zjK f g h ρ S=zqB (zag [f,g,h] ρ S):=by
 unfold zjK;cases zag [f,g,h] ρ S<;>rfl
@[simp] def zuY{i j m:Int}:zqB (.ok [.int i,.int j,.int m] S)=if i=0/\0<=j/\j<=1000/\1<=m/\m<=1000 then .ok (zdg j m) S else .bad:=(rfl)
@[simp] def zup:zdb n t it c f caps ρ S=zn8 t c f (za8 n caps ρ) (it ρ S):=by
 unfold zdb
 cases it ρ S with
 | ok ds S' =>
  simp only [Out.bind,zn8]
  cases zdR t c f (za8 n caps ρ) ds S'<;>rfl
 | exc c S'=>rfl
 | bad=>rfl
@[simp] def zve:zn8 t c f ρ0 (.ok ds S)=zjo (zdR t c f ρ0 ds S):=(rfl)
@[simp] def zs2:zjo (.ok ys S)=if small ys.length then .ok (.lst ys) S else .bad:=(rfl)
@[simp] def zvM:zmv ρ S=.ok (.bl true) S:=(rfl)
@[simp] def zoR:za8 n caps ρ=List.replicate n none++caps.map (zrh ρ):=(rfl)
@[simp] def zuq:zrh ρ i=zvy ρ[i]?:=(rfl)
@[simp] def zw6:zvy (some (some (false,d)))=some (false,d):=(rfl)
def zkj:zb4 n own fs ds S=zrP own (fs (ds.map (fun d=>some (false,d))++List.replicate (n-ds.length) none) S):=(rfl)
@[simp] def zuX:zrP own (.rt d S)=.ok d S:=(rfl)
@[simp] def zuW:zrP false (.nx ρ S)=.ok .non S:=(rfl)
@[simp] def zuV:zrP own (.ex x ρ S)=.exc x S:=(rfl)
@[simp] def zv6{b:Bool}:isB (.bl b)=some b:=(rfl)
@[simp] def zvV{b:Bool}:zfV (.bl b)=some (.bl (!b)):=(rfl)
@[simp] def zvW:zgZ (.int i)=some (.int (-i)):=(rfl)
@[simp] def zut:zda (.int i) (.int j)=some (.int (i+j)):=(rfl)
@[simp] def zur:zda (.tup x) (.tup y)=if small (x.length+y.length) then some (.tup (x++y)) else none:=(rfl)
@[simp] def zus:zda (.lst x) (.lst y)=if small (x.length+y.length) then some (.lst (x++y)) else none:=(rfl)
@[simp] def zvN:zrD (.int i) (.int j)=some (.int (i-j)):=(rfl)
@[simp] def zvY:zi8 (.int i) (.int j)=if zbF i||zbF j then some (.int (i*j)) else none:=(rfl)
@[simp] def zvZ:zfh (.int i) (.int j)=if 0<j then some (.int (i % j)) else none:=(rfl)
@[simp] def zwf:zq5 (.int i) (.int j)=if 0<j/\j<1073741824 then some (.int (i / j)) else none:=(rfl)
@[simp] def zxr:ltD (.int i) (.int j)=some (.bl (decide (i<j))):=(rfl)
@[simp] def zxs:leD (.int i) (.int j)=some (.bl (decide (i<=j))):=(rfl)
@[simp] def zxt:gtD (.int i) (.int j)=some (.bl (decide (j<i))):=(rfl)
@[simp] def zxu:geD (.int i) (.int j)=some (.bl (decide (j<=i))):=(rfl)
@[simp] def zv4:ixD (.lst l) (.int i)=atI l i:=(rfl)
@[simp] def zv2:ixD (.tup l) (.int i)=atI l i:=(rfl)
@[simp] def zv3:ixD (.scr l) (.int i)=(atI l i).map D.int:=(rfl)
@[simp] def zue:zfW [.lst l]=some (.int l.length):=(rfl)
@[simp] def zuc:zfW [.tup l]=some (.int l.length):=(rfl)
@[simp] def zud:zfW [.scr l]=some (.int l.length):=(rfl)
@[simp] def ztN:zb6 [.lst l]=some (.tup l):=(rfl)
@[simp] def ztM:zb6 [.tup l]=some (.tup l):=(rfl)
@[simp] def zub:zjk [.lst l]=some (.lst l):=(rfl)
@[simp] def zua:zjk [.tup l]=some (.lst l):=(rfl)
@[simp] def zv5:zqK d .non=some (.bl (zcj d)):=(rfl)
@[simp] def zt4:zk2 d .non=some (.bl (!zcj d)):=(rfl)
@[simp] def zt8:zcj .non=true:=(rfl)
@[simp] def zt7:zcj (.int i)=false:=(rfl)
@[simp] def zt6:zcj (.tup l)=false:=(rfl)
@[simp] def zvO:slD (.tup l) x y=some (.tup (zmA l x y)):=(rfl)
@[simp] def zvP:slD (.lst l) x y=some (.lst (zmA l x y)):=(rfl)
@[simp] def zt5:zk3 (.bl x) (.bl y)=some (.bl (!decide (x=y))):=(rfl)
@[simp] def zv1:zrM [.int i,.int j]=some (.int (if j > i then j else i)):=(rfl)
@[simp] def zt9:zk9 [.int i,.int j]=some (.int (if j<i then j else i)):=(rfl)
@[simp] def zv0{i j:Int}:zrL [.int i,.int j]=some (.int (if j<i then j else i)):=(rfl)
@[simp] def zr4:small n=decide (n<=100000):=(rfl)
def zcE{α:Type}(xs:List α)(j:Nat):atI xs (j:Int)=xs[j]?:=by
 unfold atI ixN
 by_cases h:j<xs.length
 ·simp [h]
 ·simp [h]
@[simp] def zr0{α:Type}(xs:List α):atI xs 0=xs[0]?:=zcE xs 0
@[simp] def ztC{α:Type}(xs:List α):atI xs 1=xs[1]?:=zcE xs 1
@[simp] def ztB{α:Type}(xs:List α):atI xs 2=xs[2]?:=zcE xs 2
@[simp] def zrm{α:Type}(xs:List α):atI xs 3=xs[3]?:=zcE xs 3
def zhn{α:Type}{xs:List α}(h:0<=i):atI xs i=xs[i.toNat]?:=by
 obtain ⟨n,rfl⟩:=Int.eq_ofNat_of_zero_le h;exact zcE xs n
end
theorem zls(Iv:Nat->Env->Prop)(step:∀k d ρ,ds[k]?=some d->Iv k ρ->∃ρ1 ρ2,tg.put ρ d=some ρ1/\body ρ1 S=.nx ρ2 S/\Iv (k+1) ρ2)(h0:Iv 0 ρ):∃ρ',zh8 tg body ds ρ S=.nx ρ' S/\Iv ds.length ρ':=by
 have go:∀(n:Nat) (es:List D) (k:Nat) (ρ:Env),es.length=n->ds.drop k=es->k+n=ds.length->Iv k ρ->∃ρ',zh8 tg body es ρ S=.nx ρ' S/\Iv ds.length ρ':=by
  intro n
  induction n with
  | zero =>
   intro es k ρ hl he hk hi;obtain rfl:es=[]:=ybx hl;exact ⟨ρ,rfl,by rw [show ds.length=k by omega];exact hi⟩
  | succ n ih =>
   intro es k ρ hl he hk hi
   cases es with
   | nil=>cases hl
   | cons d es =>
    have hd:ds[k]?=some d:=by
     have:=congrArg (fun l=>l[0]?) he;rw [ybt] at this;simpa using this
    obtain ⟨ρ1,ρ2,e1,e2,hi2⟩:=step k d ρ hd hi;obtain ⟨ρ',e3,e4⟩:=ih es (k+1) ρ2 (by simpa using hl) (by rw [<-List.drop_drop,he];rfl) (by omega) hi2;refine ⟨ρ',?_,e4⟩;unfold zh8;rw [e1];dsimp only;rw [e2];exact e3
 exact go ds.length ds 0 ρ rfl (by simp) (by omega) h0
mutual
def D.pl:D->Bool
 | .non=>true
 | .int _=>true
 | .str _=>true
 | .tup l=>D.pls l
 | .lst l=>D.pls l
 | _=>false
def D.pls:List D->Bool
 | []=>true
 | d::l=>d.pl&&D.pls l
end
mutual
theorem zjG:∀(d e:D),d.pl=true->e.pl=true->(d.py.eqv e.py=true↔d=e)
 | .non,e,_,h=>by cases e<;>simp [D.py,PyData.eqv,D.pl] at h ⊢
 | .int i,e,_,h=>by cases e<;>simp [D.py,PyData.eqv,D.pl] at h ⊢
 | .str x,e,_,h=>by cases e<;>simp [D.py,PyData.eqv,D.pl] at h ⊢
 | .tup l,e,hd,h=>by
  cases e with
  | tup k =>
   simp only [D.py,PyData.eqv,D.pl] at hd h ⊢;rw [zgl l k hd h];simp
  | _=>simp [D.py,PyData.eqv,D.pl] at h ⊢
 | .lst l,e,hd,h=>by
  cases e with
  | lst k =>
   simp only [D.py,PyData.eqv,D.pl] at hd h ⊢;rw [zgl l k hd h];simp
  | _=>simp [D.py,PyData.eqv,D.pl] at h ⊢
 | .bl _,_,hd,_=>by simp [D.pl] at hd
 | .dic _,_,hd,_=>by simp [D.pl] at hd
 | .ref _,_,hd,_=>by simp [D.pl] at hd
 | .exc _,_,hd,_=>by simp [D.pl] at hd
 | .scr _,_,hd,_=>by simp [D.pl] at hd
theorem zgl:∀(l k:List D),D.pls l=true->D.pls k=true->(PyData.eqvAll (D.pys l) (D.pys k)=true↔l=k)
 | [],[],_,_=>by simp [D.pys,PyData.eqvAll]
 | [],_::_,_,_=>by simp [D.pys,PyData.eqvAll]
 | _::_,[],_,_=>by simp [D.pys,PyData.eqvAll]
 | d::l,e::k,h1,h2=>by
  simp only [D.pls,yab] at h1 h2;simp only [D.pys,PyData.eqvAll,yab,List.cons.injEq];rw [zjG d e h1.1 h2.1,zgl l k h1.2 h2.2]
end
@[simp] def zts:D.fit n (.int i)=true:=by cases n<;>rfl
@[simp] def ztq:D.fit n .non=true:=by cases n<;>rfl
@[simp] def ztp:D.fit (n+1) (.tup l)=D.fits n l:=(rfl)
@[simp] def ztr:D.fit (n+1) (.lst l)=D.fits n l:=(rfl)
@[simp] def zrW:D.fits n []=true:=by cases n<;>rfl
@[simp] def zqX:D.fits n (d::l)=(d.fit n&&D.fits n l):=by cases n<;>rfl
@[simp] def zv8:eqD (.int i) (.int j)=some (.bl (decide (i=j))):=by
 unfold eqD zer;simp [D.py,PyData.eqv]
 cases h:(i == j)<;>simp_all
@[simp] def zvX:neD (.int i) (.int j)=some (.bl (!decide (i=j))):=by
 unfold neD zer;simp [D.py,PyData.eqv]
 cases h:(i == j)<;>simp_all
def zea:eqD (.scr l) (.lst [])=some (.bl (decide (l=[]))):=by
 cases l with
 | nil=>rfl
 | cons a l=>simp [eqD,D.fit,D.fits,zer,D.py,D.pys,PyData.eqv,PyData.eqvAll]
noncomputable def zhX(l:List Int)(k:Int):Int:=if k<l.length then l.getD k.toNat 0 else if l=[] then 0 else l.getD (k % l.length).toNat 0*31+k
def zf9(l:List Int)(k:Int)(many:Int):Int :=
 let d:=(zhX l k+6151*(k+1))*40692 % 2147483399
 (d*d+d / 31) % 2147483629 % many
def zf8(l:List Int)(k:Int)(h:0<many):0<=zf9 l k many/\zf9 l k many<many:=⟨Int.emod_nonneg _ (by omega),ydb _ h⟩
@[simp] def zvE:zbF 31=true:=by decide
@[simp] def zrX:zbF 6151=true:=by decide
@[simp] def zqZ:zbF 40692=true:=by decide
theorem zqY(h0:-(2 ^ 64)<i)(h:i<2 ^ 64):zbF i=true:=by unfold zbF;simp;omega
theorem zkA(hk:0<=k):za1 [.scr l,.int k] S=.ok (.int (zhX l k)) S:=by
 unfold zhX
 by_cases h:k<l.length
 ·have hx:l[k.toNat]?=some l[k.toNat]:=yac (by omega);rw [if_pos h,yaP,hx];simp [za1,zkj,zbf,h,zhn hk,hx]
 ·by_cases h0:l=[]
  ·subst h0;simp [za1,zkj,zbf,zea,show ¬ k<0 by omega]
  ·have hl:0<l.length:=by cases l with | nil=>exact absurd rfl h0 | cons _ _=>simp
   have hm0:0<=k % (l.length:Int):=Int.emod_nonneg _ (by omega);have hm1:k % (l.length:Int)<l.length:=ydb _ (by omega);have hx:l[(k % (l.length:Int)).toNat]?=some (l[(k % (l.length:Int)).toNat]'(by omega)):=yac (by omega);rw [if_neg h,if_neg h0,yaP,hx];simp [za1,zkj,zbf,h,h0,zea,zhn hm0,hx,hl]
theorem zen(hk:0<=k)(hm:0<many):zaq [.scr l,.int k,.int many] S=.ok (.int (zf9 l k many)) S:=by
 unfold zf9;have h0:0<=(zhX l k+6151*(k+1))*40692 % 2147483399:=Int.emod_nonneg _ (by omega);have h1:(zhX l k+6151*(k+1))*40692 % 2147483399<2147483399:=ydb _ (by omega);have hf:zbF ((zhX l k+6151*(k+1))*40692 % 2147483399)=true:=zqY (by omega) (by omega);simp [zaq,zkj,zck,zkA hk,hf,hm]
@[simp] def zpG:(zbC 0 hi).length=hi.toNat:=by unfold zbC;simp
@[simp] def zxj:zbF 4=true:=by decide
@[simp] def zxi:zbF 7=true:=by decide
noncomputable def oD:Option Int->D | none=>.non | some i=>.int i
noncomputable def zoK(c:Nat)(g:Nat->Option Int):List D:=(List.range c).map fun j=>oD (g j)
def zuC(c:Nat)(g:Nat->Option Int):D:=.tup (zoK c g)
noncomputable def zqV(r c:Nat)(g:Z1):List D:=(List.range r).map fun i=>zuC c (g i)
@[simp] def zrH:(zoK c g).length=c:=by simp [zoK]
@[simp] def zrU:(zqV r c g).length=r:=by simp [zqV]
@[simp] def zsA(h:j<(zoK c g).length):(zoK c g)[j]=oD (g j):=by simp [zoK]
@[simp] def ztn(h:i<(zqV r c g).length):(zqV r c g)[i]=zuC c (g i):=by simp [zqV]
@[simp] def zxk:eqD (oD a) (oD b)=some (.bl (decide (a=b))):=by
 cases a<;>cases b<;>simp [oD]
 ·rfl
 ·rfl
 ·rfl
@[simp] def zuL:zcj (oD a)=decide (a=none):=by cases a<;>simp [oD]
def zge(h:d.pl=true)(f:d.fit 9=true):neD d d=some (.bl false):=by
 unfold neD zer;rw [f,(zjG d d h h).mpr rfl];rfl
def zjH(h:d.pl=true)(f:d.fit 9=true):eqD d d=some (.bl true):=by
 unfold eqD zer;rw [f,(zjG d d h h).mpr rfl];rfl
noncomputable def hp1:Fe:=zbH leD ltD (zae (.int 0)) (zal ixD (zau 1) (zae (.int 0))) (zal ixD (zau 2) (zae (.int 0)))
noncomputable def hp2:Fe:=zbH leD ltD (zae (.int 0)) (zal ixD (zau 1) (zae (.int 1))) (zal ixD (zau 2) (zae (.int 1)))
noncomputable def cl2:Option Int->Option Int->Bool | some a,some b=>!decide (a=b) | _,_=>false
def unI:D->Int | .int i=>i | _=>0
noncomputable def zb9:Fs :=
  (zar (sFz [0,2,1] (zbJ (zaZ zb6 [(zdb 1 (.one 0) (za7 (zan 0)) zmv (eIf (zal eqD (zau 0) (zau 2)) (zan 1) (zan 0)) [2,1])])))
  sNx)
noncomputable def zb7:List S2.D->Sto->Out S2.D:=zb4 3 false zb9
noncomputable def zd5:Fs :=
  (zar (sFz [0,3] (sIf (eUn zfV (eFn ze7 [(zan 0),(zan 3)])) (zar (sFz [] (sRz "NoTile" [(zae (.str "the set has no such number"))])) sNx) sNx))
  (zar (sFz [1,3,2] (zbJ (zaZ zb6 [(zdb 1 (.one 0) (za7 (zan 1)) zmv (eFn zb7 [(zan 0),(zan 2),(zan 1)]) [3,2])])))
  sNx))
noncomputable def zaG:List S2.D->Sto->Out S2.D:=zb4 4 false zd5
noncomputable def zdB:Fs :=
  (zar (sFz [1,2] (zbL 4 false (eFn zdh [(zan 1),(zan 2)])))
  (zar (sFz [1,3] (zbL 5 false (eFn zdh [(zan 1),(zan 3)])))
  (zar (sFz [1,2,5,3,4] (zbJ (eFn zbw [(eFn zbw [(zan 1),(zan 2),(zan 5)]),(zan 3),(zan 4)])))
  sNx)))
noncomputable def zbd:List S2.D->Sto->Out S2.D:=zb4 6 false zdB
noncomputable def zd7:Fs :=
  (zar (sFz [1] (sIf (eUn zfV (eFn zbx [(zan 1),(zaZ zfW [(zau 0)]),(zaZ zfW [(zau 0)])])) (zar (sFz [] (zbJ (zae (.bl false)))) sNx) sNx))
  (zar (sFz [1,0,1] (zbJ (zhc (zaZ zr2 [(zdb 1 (.one 0) (za7 (zan 1)) zmv (eFn zbN [(zan 1),(zan 0)]) [0])]) (zal eqD (eUn zcO (zan 1)) (zaZ zfW [(zau 1)])))))
  sNx))
noncomputable def zdZ:List S2.D->Sto->Out S2.D:=zb4 2 false zd7
noncomputable def zbs:Fs :=
  (zar (sFz [0,1] (sIf (eUn zfV (eFn zdZ [(zan 0),(zan 1)])) (zar (sFz [] (sRz "NoTile" [(zae (.str "this is no order of the set's numbers"))])) sNx) sNx))
  sNx)
noncomputable def za0:List S2.D->Sto->Out S2.D:=zb4 2 false zbs
noncomputable def zg8:Fs :=
  (zar (sFz [0,1] (zl5 (eFn za0 [(zan 0),(zan 1)])))
  (zar (sFz [1,0] (zbJ (zaZ zb6 [(zdb 1 (.one 0) (za7 (zan 1)) zmv (zal ixD (zau 1) (zau 0)) [0])])))
  sNx))
noncomputable def zcp:List S2.D->Sto->Out S2.D:=zb4 2 false zg8
noncomputable def zg9:Fs :=
  (zar (sFz [0,1] (zbJ (zaZ zb6 [(zdb 1 (.one 0) (za7 (zan 0)) zmv (zjN 1 (zan 0) (zan 0)) [1])])))
  sNx)
noncomputable def zgS:List S2.D->Sto->Out S2.D:=zb4 2 false zg9
noncomputable def zfQ:Fs :=
  (zar (sFz [4] (zkz 3 (zan 5) (zan 4))) sNx)
noncomputable def zd8:Fs :=
  (zar (sFz [0,2] (zl5 (eFn za0 [(zan 0),(zan 2)])))
  (zar (sFz [] (zbL 3 true zlu))
  (zar (sFz [2] (zl4 (.tup [4,5]) (zjO (zan 2)) zfQ))
  (zar (sFz [1,3] (zbJ (zaZ zb6 [(zdb 1 (.one 0) (za7 (zan 1)) zmv (eFn zgS [(zan 0),(zan 1)]) [3])])))
  sNx))))
noncomputable def zbo:List S2.D->Sto->Out S2.D:=zb4 6 false zd8
noncomputable def zwz(n:Nat):List Int:=(List.range n).map fun (i:Nat)=>(i:Int)
noncomputable def inv(os:List Int)(x:Int):Int:=(os.idxOf x:Nat)
def con(n:Nat)(os:List Int):List Int:=(zwz n).map (inv os)
end S2
namespace S2.L87
open PySem
open L2 hiding D
noncomputable def zgB:List (Str×Str):=[("NoPlace","FloorError"),("NoTile","FloorError")]
def isL:Str->Str->Option Bool:=zrT ["NoPlace","NoTile"] ["FloorError","NoPlace","NoTile","NoFill","Unlike","Nothing","NoText","NoName"]
noncomputable def zcT:Fs :=
  (zar (sFz [0] (zbL 7 false (zal ixD (zc6 [(za5 [(zae (.int 2)),(zae (.int 0))]),(za5 [(zae (.int 0)),(zae (.int 2))]),(za5 [(eUn zgZ (zae (.int 1))),(zae (.int 0))]),(za5 [(zae (.int 0)),(eUn zgZ (zae (.int 1)))])]) (zal zfh (zal zda (eFn zaq [(zan 0),(zae (.int 0)),(zae (.int 4))]) (zau 2)) (zae (.int 4)))))) (zar (sFz [0] (zbL 6 false (zal ixD (zau 1) (zal zfh (zal zda (eFn zaq [(zan 0),(zae (.int 1)),(zae (.int 10))]) (zal zi8 (zae (.int 3)) (zau 2))) (zae (.int 10)))))) (zar (sFz [0] (zbL 5 false (zal ixD (zc6 [(zae (.int 3)),(eUn zgZ (zae (.int 1))),(zae (.int 9)),(zae (.int 16))]) (zal zfh (zal zda (eFn zaq [(zan 0),(zae (.int 2)),(zae (.int 4))]) (zau 2)) (zae (.int 4)))))) (zar (sFz [] (zbL 3 true (zc6 [(zbS (zfT zgB) isL [4,7,8] (eFn zbd [(zan 2),(zan 0),(zan 1),(za5 [(zae (.int 0)),(zae (.int 0))])]))]))) (zar (sFz [] (zgP 3 (zbS (zfT zgB) isL [4,7,8] (eFn zbd [(zan 2),(zan 0),(za5 [(zae (.int 0)),(zae (.int 0))]),(zan 1)])))) (zar (sFz [] (sIf (zal neD (zau 3) (zal zdo (zc6 [(zae (.str "no place"))]) (zae (.int 2)))) (zar (sFz [] (zbJ (zae (.bl false)))) sNx) sNx)) (zar (sFz [] (zbL 3 true (zc6 [(zbS (zfT zgB) isL [6,8] (eFn zcp [(zan 1),(zan 0)]))]))) (zar (sFz [] (zgP 3 (zbS (zfT zgB) isL [4,6,8] (eFn zbo [(zan 2),(zan 0),(zan 1)])))) (zar (sFz [] (zgP 3 (zbS (zfT zgB) isL [4,5,8] (eFn zaG [(zan 2),(zan 0),(zae (.int 0)),(zan 1)])))) (zar (sFz [] (zgP 3 (zbS (zfT zgB) isL [4,5,8] (eFn zaG [(zan 2),(zan 0),(zae .non),(zan 1)])))) (zar (sFz [] (zgP 3 (zbS (zfT zgB) isL [5,8] (eFn zaG [(zan 1),(za5 [(za5 [(zae (.int 0))])]),(zae (.int 1)),(zan 0)])))) (zar (sFz [] (sIf (zal neD (zau 3) (zal zdo (zc6 [(zae (.str "no tile"))]) (zae (.int 5)))) (zar (sFz [] (zbJ (zae (.bl false)))) sNx) sNx)) sNx))))))))))))
noncomputable def zii:Fs:=zar (sFz [8,4,8,4] (zbJ (zhc (zal eqD (eFn zbo [(zan 8),(zan 4),(za5 [(zae (.int 2)),(zae (.int 0)),(zae (.int 1))])]) (za5 [(za5 [(zae (.int 1)),(zae .non)]),(za5 [(zae (.int 0)),(zae (.int 2))])])) (zal eqD (eFn zaG [(zan 8),(zan 4),(zae (.int 1)),(zae (.int 1))]) (zau 4))))) sNx
noncomputable def zf2:Fs:=zar (sFz [8] (sIf (zal neD (eFn zcp [(zan 8),(za5 [(zae (.int 2)),(zae (.int 0)),(zae (.int 1))])]) (za5 [(za5 [(zae (.int 2)),(zae (.int 2)),(zae (.int 2)),(zae (.int 2))]),(za5 [(zae (.int 0)),(zae (.int 1)),(zae (.int 0)),(zae (.int 1))]),(za5 [(zae (.int 1)),(zae (.int 0)),(zae (.int 1)),(zae (.int 0))])])) (zar (sFz [] (zbJ (zae (.bl false)))) sNx) sNx)) zii
noncomputable def zei:Fs:=zar (sFz [] (zl4 (.one 2) (zgm (zae (.int 4))) zcT)) zf2
noncomputable def zmM:Fs:=zar (sFz [] (zbL 1 true (zc6 [(zae .non),(za5 []),(za5 [(zae (.int 0)),(zae (.int 1))]),(za5 [(zae (.int 0)),(zae (.int 1)),(zae (.int 1))]),(za5 [(zae (.int 0)),(zae (.int 1)),(zae (.int 3))]),(za5 [(zae (.int 0)),(zae (.int 1)),(zae (.int 2)),(zae (.int 2))]),(zc6 [(zae (.int 0)),(zae (.int 1)),(zae (.int 2))]),(za5 [(zae (.int 0)),(zae (.int 1)),(zae (.str "2"))]),(za5 [(zae (.int 0)),(zae (.bl true)),(zae (.int 2))]),(zae (.int 5))]))) zei
noncomputable def zmN:Fs:=zar (sFz [] (zbL 4 false (za5 [(za5 [(zae (.int 0)),(zae .non)]),(za5 [(zae (.int 2)),(zae (.int 1))])]))) zmM
noncomputable def zmO:Fs:=zar (sFz [] (zbL 8 false (za5 [(za5 [(zae (.int 0)),(zae (.int 1)),(zae (.int 0)),(zae (.int 1))]),(za5 [(zae (.int 1)),(zae (.int 0)),(zae (.int 1)),(zae (.int 0))]),(za5 [(zae (.int 2)),(zae (.int 2)),(zae (.int 2)),(zae (.int 2))])]))) zmN
noncomputable def zjF:Fs :=
  zmO
noncomputable def zsC:List S2.D->Sto->Out S2.D:=zb4 9 false zjF
def q_1:Fs:=(sFz [0] (zbL 7 false (zal ixD (zc6 [(za5 [(zae (.int 2)),(zae (.int 0))]),(za5 [(zae (.int 0)),(zae (.int 2))]),(za5 [(eUn zgZ (zae (.int 1))),(zae (.int 0))]),(za5 [(zae (.int 0)),(eUn zgZ (zae (.int 1)))])]) (zal zfh (zal zda (eFn zaq [(zan 0),(zae (.int 0)),(zae (.int 4))]) (zau 2)) (zae (.int 4))))))
def q_2:Fs:=(sFz [0] (zbL 6 false (zal ixD (zau 1) (zal zfh (zal zda (eFn zaq [(zan 0),(zae (.int 1)),(zae (.int 10))]) (zal zi8 (zae (.int 3)) (zau 2))) (zae (.int 10))))))
def q_3:Fs:=(sFz [0] (zbL 5 false (zal ixD (zc6 [(zae (.int 3)),(eUn zgZ (zae (.int 1))),(zae (.int 9)),(zae (.int 16))]) (zal zfh (zal zda (eFn zaq [(zan 0),(zae (.int 2)),(zae (.int 4))]) (zau 2)) (zae (.int 4))))))
def q_4:Fs:=(sFz [] (zbL 3 true (zc6 [(zbS (zfT zgB) isL [4,7,8] (eFn zbd [(zan 2),(zan 0),(zan 1),(za5 [(zae (.int 0)),(zae (.int 0))])]))])))
def q_5:Fs:=(sFz [] (zgP 3 (zbS (zfT zgB) isL [4,7,8] (eFn zbd [(zan 2),(zan 0),(za5 [(zae (.int 0)),(zae (.int 0))]),(zan 1)]))))
def q_6:Fs:=(sFz [] (sIf (zal neD (zau 3) (zal zdo (zc6 [(zae (.str "no place"))]) (zae (.int 2)))) (zar (sFz [] (zbJ (zae (.bl false)))) sNx) sNx))
def q_7:Fs:=(sFz [] (zbL 3 true (zc6 [(zbS (zfT zgB) isL [6,8] (eFn zcp [(zan 1),(zan 0)]))])))
def q_8:Fs:=(sFz [] (zgP 3 (zbS (zfT zgB) isL [4,6,8] (eFn zbo [(zan 2),(zan 0),(zan 1)]))))
def q_9:Fs:=(sFz [] (zgP 3 (zbS (zfT zgB) isL [4,5,8] (eFn zaG [(zan 2),(zan 0),(zae (.int 0)),(zan 1)]))))
def zuG:Fs:=(sFz [] (zgP 3 (zbS (zfT zgB) isL [4,5,8] (eFn zaG [(zan 2),(zan 0),(zae .non),(zan 1)]))))
def zuF:Fs:=(sFz [] (zgP 3 (zbS (zfT zgB) isL [5,8] (eFn zaG [(zan 1),(za5 [(za5 [(zae (.int 0))])]),(zae (.int 1)),(zan 0)]))))
def zsF:Fs:=(sFz [] (sIf (zal neD (zau 3) (zal zdo (zc6 [(zae (.str "no tile"))]) (zae (.int 5)))) (zar (sFz [] (zbJ (zae (.bl false)))) sNx) sNx))
def zxl:zcT=zar q_1 (zar q_2 (zar q_3 (zar q_4 (zar q_5 (zar q_6 (zar q_7 (zar q_8 (zar q_9 (zar zuG (zar zuF (zar zsF sNx))))))))))):=rfl
noncomputable def tiD:D:=.tup [.tup [.int 0,.int 1,.int 0,.int 1],.tup [.int 1,.int 0,.int 1,.int 0],.tup [.int 2,.int 2,.int 2,.int 2]]
noncomputable def flD:D:=.tup [.tup [.int 0,.non],.tup [.int 2,.int 1]]
noncomputable def zqc:List D:=[.non,.tup [],.tup [.int 0,.int 1],.tup [.int 0,.int 1,.int 1],.tup [.int 0,.int 1,.int 3],.tup [.int 0,.int 1,.int 2,.int 2],.lst [.int 0,.int 1,.int 2],.tup [.int 0,.int 1,.str "2"],.tup [.int 0,.bl true,.int 2],.int 5]
noncomputable def plL:List D:=[.tup [.int 2,.int 0],.tup [.int 0,.int 2],.tup [.int (-1),.int 0],.tup [.int 0,.int (-1)]]
noncomputable def nuL:List D:=[.int 3,.int (-1),.int 9,.int 16]
noncomputable abbrev Rr(l:List Int)(x2 x3 x5 x6 x7:Option (Bool×D)):Env:=[some (false,.scr l),some (true,.lst zqc),x2,x3,some (false,flD),x5,x6,x7,some (false,tiD)]
section
variable{l:List Int}{x3 x5 x6 x7:Option (Bool×D)}{S:Sto}{k:Int}{g:Fs}
theorem s1(hk:0<=k/\k<4):∃p∈plL,q_1 (Rr l (some (false,.int k)) x3 x5 x6 x7) S=.nx (Rr l (some (false,.int k)) x3 x5 x6 (some (false,p))) S:=by
 have e:=zen (l:=l) (k:=0) (many:=4) (S:=S) (by decide) (by decide);have b:=zf8 l 0 (many:=4) (by decide);generalize zf9 l 0 4=p at e b
 have hp:p=0\/p=1\/p=2\/p=3:=by omega
 have hk':k=0\/k=1\/k=2\/k=3:=by omega
 have key:∀i:Int,zaq [.scr l,.int 0,.int 4] S=.ok (.int i) S->q_1 (Rr l (some (false,.int k)) x3 x5 x6 x7) S=(sFz [0] (zbL 7 false (zal ixD (zc6 [(za5 [(zae (.int 2)),(zae (.int 0))]),(za5 [(zae (.int 0)),(zae (.int 2))]),(za5 [(eUn zgZ (zae (.int 1))),(zae (.int 0))]),(za5 [(zae (.int 0)),(eUn zgZ (zae (.int 1)))])]) (zal zfh (zal zda (zae (.int i)) (zau 2)) (zae (.int 4)))))) (Rr l (some (false,.int k)) x3 x5 x6 x7) S:=fun i ei=>by
  simp [q_1,ei]
 rw [key p e]
 rcases hp with rfl | rfl | rfl | rfl<;>rcases hk' with rfl | rfl | rfl | rfl<;>first | exact ⟨_,.head _,rfl⟩ | exact ⟨_,.tail _ (.head _),rfl⟩ | exact ⟨_,.tail _ (.tail _ (.head _)),rfl⟩ | exact ⟨_,.tail _ (.tail _ (.tail _ (.head _))),rfl⟩
def q6:q_6 (Rr l (some (false,.int k)) (some (true,.lst [.str "no place",.str "no place"])) x5 x6 x7) S=.nx (Rr l (some (false,.int k)) (some (true,.lst [.str "no place",.str "no place"])) x5 x6 x7) S:=by
 have e:neD (.lst [.str "no place",.str "no place"]) (.lst [.str "no place",.str "no place"])=some (.bl false):=zge rfl (by simp [D.fit,D.fits];decide +kernel);have m:zdo (.lst [.str "no place"]) (.int 2)=some (.lst [.str "no place",.str "no place"]):=rfl;simp [q_6,e,m]
def q12:zsF (Rr l (some (false,.int k)) (some (true,.lst [.str "no tile",.str "no tile",.str "no tile",.str "no tile",.str "no tile"])) x5 x6 x7) S=.nx (Rr l (some (false,.int k)) (some (true,.lst [.str "no tile",.str "no tile",.str "no tile",.str "no tile",.str "no tile"])) x5 x6 x7) S:=by
 have e:neD (.lst [.str "no tile",.str "no tile",.str "no tile",.str "no tile",.str "no tile"]) (.lst [.str "no tile",.str "no tile",.str "no tile",.str "no tile",.str "no tile"])=some (.bl false):=zge rfl (by simp [D.fit,D.fits];decide +kernel);have m:zdo (.lst [.str "no tile"]) (.int 5)=some (.lst [.str "no tile",.str "no tile",.str "no tile",.str "no tile",.str "no tile"]):=rfl;simp [zsF,e,m]
def pP{p:D}(hp:p∈plL):zar q_4 (zar q_5 g) (Rr l (some (false,.int k)) x3 x5 x6 (some (false,p))) S=g (Rr l (some (false,.int k)) (some (true,.lst [.str "no place",.str "no place"])) x5 x6 (some (false,p))) S:=by
 simp only [plL,yan,yaJ,ybM] at hp
 rcases hp with rfl | rfl | rfl | rfl<;>rfl
def pO{o:D}(ho:o∈zqc):zar q_7 (zar q_8 g) (Rr l (some (false,.int k)) x3 x5 (some (false,o)) x7) S=g (Rr l (some (false,.int k)) (some (true,.lst [.str "no tile",.str "no tile"])) x5 (some (false,o)) x7) S:=by
 simp only [zqc,yan,yaJ,ybM] at ho
 rcases ho with rfl | rfl | rfl | rfl | rfl | rfl | rfl | rfl | rfl | rfl<;>rfl
def pN{n:D}(hn:n∈nuL):zar q_9 (zar zuG (zar zuF g)) (Rr l (some (false,.int k)) (some (true,.lst [.str "no tile",.str "no tile"])) (some (false,n)) x6 x7) S=g (Rr l (some (false,.int k)) (some (true,.lst [.str "no tile",.str "no tile",.str "no tile",.str "no tile",.str "no tile"])) (some (false,n)) x6 x7) S:=by
 simp only [nuL,yan,yaJ,ybM] at hn
 rcases hn with rfl | rfl | rfl | rfl<;>rfl
theorem s2(hk:0<=k/\k<4):∃o∈zqc,q_2 (Rr l (some (false,.int k)) x3 x5 x6 x7) S=.nx (Rr l (some (false,.int k)) x3 x5 (some (false,o)) x7) S:=by
 have e:=zen (l:=l) (k:=1) (many:=10) (S:=S) (by decide) (by decide);have b:=zf8 l 1 (many:=10) (by decide);generalize zf9 l 1 10=p at e b
 have key:∀i:Int,zaq [.scr l,.int 1,.int 10] S=.ok (.int i) S->q_2 (Rr l (some (false,.int k)) x3 x5 x6 x7) S=(sFz [0] (zbL 6 false (zal ixD (zau 1) (zal zfh (zal zda (zae (.int i)) (zal zi8 (zae (.int 3)) (zau 2))) (zae (.int 10)))))) (Rr l (some (false,.int k)) x3 x5 x6 x7) S:=fun i ei=>by
  simp [q_2,ei]
 rw [key p e]
 have hk':k=0\/k=1\/k=2\/k=3:=by omega
 have hp:p=0\/p=1\/p=2\/p=3\/p=4\/p=5\/p=6\/p=7\/p=8\/p=9:=by omega
 rcases hk' with rfl | rfl | rfl | rfl<;>rcases hp with rfl | rfl | rfl | rfl | rfl | rfl | rfl | rfl | rfl | rfl<;>exact ⟨_,by simp only [zqc];first | exact .head _ | exact .tail _ (.head _) | exact .tail _ (.tail _ (.head _)) | exact .tail _ (.tail _ (.tail _ (.head _))) | exact .tail _ (.tail _ (.tail _ (.tail _ (.head _)))) | exact .tail _ (.tail _ (.tail _ (.tail _ (.tail _ (.head _))))) | exact .tail _ (.tail _ (.tail _ (.tail _ (.tail _ (.tail _ (.head _)))))) | exact .tail _ (.tail _ (.tail _ (.tail _ (.tail _ (.tail _ (.tail _ (.head _))))))) | exact .tail _ (.tail _ (.tail _ (.tail _ (.tail _ (.tail _ (.tail _ (.tail _ (.head _)))))))) | exact .tail _ (.tail _ (.tail _ (.tail _ (.tail _ (.tail _ (.tail _ (.tail _ (.tail _ (.head _))))))))),rfl⟩
theorem s3(hk:0<=k/\k<4):∃n∈nuL,q_3 (Rr l (some (false,.int k)) x3 x5 x6 x7) S=.nx (Rr l (some (false,.int k)) x3 (some (false,n)) x6 x7) S:=by
 have e:=zen (l:=l) (k:=2) (many:=4) (S:=S) (by decide) (by decide);have b:=zf8 l 2 (many:=4) (by decide);generalize zf9 l 2 4=p at e b
 have hp:p=0\/p=1\/p=2\/p=3:=by omega
 have hk':k=0\/k=1\/k=2\/k=3:=by omega
 have key:∀i:Int,zaq [.scr l,.int 2,.int 4] S=.ok (.int i) S->q_3 (Rr l (some (false,.int k)) x3 x5 x6 x7) S=(sFz [0] (zbL 5 false (zal ixD (zc6 [(zae (.int 3)),(eUn zgZ (zae (.int 1))),(zae (.int 9)),(zae (.int 16))]) (zal zfh (zal zda (zae (.int i)) (zau 2)) (zae (.int 4)))))) (Rr l (some (false,.int k)) x3 x5 x6 x7) S:=fun i ei=>by
  simp [q_3,ei]
 rw [key p e]
 rcases hp with rfl | rfl | rfl | rfl<;>rcases hk' with rfl | rfl | rfl | rfl<;>first | exact ⟨_,.head _,rfl⟩ | exact ⟨_,.tail _ (.head _),rfl⟩ | exact ⟨_,.tail _ (.tail _ (.head _)),rfl⟩ | exact ⟨_,.tail _ (.tail _ (.tail _ (.head _))),rfl⟩
def zdX{f g:Fs}{ρ ρ':Env}{S S':Sto}(h:f ρ S=.nx ρ' S'):zar f g ρ S=g ρ' S':=by unfold zar;rw [h]
def zov(hk:0<=k/\k<4):∃y3 y5 y6 y7,zcT (Rr l (some (false,.int k)) x3 x5 x6 x7) S=.nx (Rr l (some (false,.int k)) y3 y5 y6 y7) S:=by
 obtain ⟨p,hp,e1⟩:=s1 (l:=l) (x3:=x3) (x5:=x5) (x6:=x6) (x7:=x7) (S:=S) hk;obtain ⟨o,ho,e2⟩:=s2 (l:=l) (x3:=x3) (x5:=x5) (x6:=x6) (x7:=some (false,p)) (S:=S) hk;obtain ⟨n,hn,e3⟩:=s3 (l:=l) (x3:=x3) (x5:=x5) (x6:=some (false,o)) (x7:=some (false,p)) (S:=S) hk;refine ⟨some (true,.lst [.str "no tile",.str "no tile",.str "no tile",.str "no tile",.str "no tile"]),some (false,n),some (false,o),some (false,p),?_⟩;rw [zxl,zdX e1,zdX e2,zdX e3,pP hp,zdX q6,pO ho,pN hn,zdX q12];rfl
end
def zmL{l:List Int}{x2 x3 x5 x6 x7:Option (Bool×D)}{S:Sto}:zf2 (Rr l x2 x3 x5 x6 x7) S=.rt (.bl true) S:=by
 have a1:zcp [tiD,.tup [.int 2,.int 0,.int 1]] S=.ok (.tup [.tup [.int 2,.int 2,.int 2,.int 2],.tup [.int 0,.int 1,.int 0,.int 1],.tup [.int 1,.int 0,.int 1,.int 0]]) S:=rfl;have a2:zbo [tiD,flD,.tup [.int 2,.int 0,.int 1]] S=.ok (.tup [.tup [.int 1,.non],.tup [.int 0,.int 2]]) S:=rfl;have a3:zaG [tiD,flD,.int 1,.int 1] S=.ok flD S:=rfl;have b1:neD (.tup [.tup [.int 2,.int 2,.int 2,.int 2],.tup [.int 0,.int 1,.int 0,.int 1],.tup [.int 1,.int 0,.int 1,.int 0]]) (.tup [.tup [.int 2,.int 2,.int 2,.int 2],.tup [.int 0,.int 1,.int 0,.int 1],.tup [.int 1,.int 0,.int 1,.int 0]])=some (.bl false):=zge rfl (by simp [D.fit,D.fits]);have b2:eqD (.tup [.tup [.int 1,.non],.tup [.int 0,.int 2]]) (.tup [.tup [.int 1,.non],.tup [.int 0,.int 2]])=some (.bl true):=zjH rfl (by simp [D.fit,D.fits]);have b3:eqD flD flD=some (.bl true):=zjH rfl (by simp [flD,D.fit,D.fits]);generalize ht:tiD=T at a1 a2 a3;generalize hf:flD=F at a2 a3 b3;simp [zf2,zii,Rr,ht,hf,a1,a2,a3,b1,b2,b3]
theorem zld(l:List Int)(hl:l.length<=63):zsC [.scr l] []=.ok (.bl true) []:=by
 obtain ⟨ρ',e,x2,x3,x5,x6,x7,rfl⟩:=zls (tg:=.one 2) (body:=zcT) (ds:=[.int 0,.int 1,.int 2,.int 3]) (S:=[]) (fun _ ρ=>∃x2 x3 x5 x6 x7,ρ=Rr l x2 x3 x5 x6 x7) (fun k d ρ hd ⟨x2,x3,x5,x6,x7,hr⟩=>by
  subst hr
  have hi:∃i:Int,d=.int i/\0<=i/\i<4:=by
   match k,hd with
   | 0,hd=>cases hd;exact ⟨0,rfl,by decide⟩
   | 1,hd=>cases hd;exact ⟨1,rfl,by decide⟩
   | 2,hd=>cases hd;exact ⟨2,rfl,by decide⟩
   | 3,hd=>cases hd;exact ⟨3,rfl,by decide⟩
   | k+4,hd=>simp at hd
  obtain ⟨i,rfl,h1,h2⟩:=hi;obtain ⟨y3,y5,y6,y7,eb⟩:=zov (l:=l) (x3:=x3) (x5:=x5) (x6:=x6) (x7:=x7) (S:=[]) (k:=i) ⟨h1,h2⟩
  exact ⟨_,_,rfl,eb,_,_,_,_,_,rfl⟩) (ρ:=Rr l none none none none none) ⟨_,_,_,_,_,rfl⟩
 have e4:zei (Rr l none none none none none) []=.rt (.bl true) []:=by
  unfold zei;have:(sFz [] (zl4 (.one 2) (zgm (zae (.int 4))) zcT)) (Rr l none none none none none) []=zh8 (.one 2) zcT [.int 0,.int 1,.int 2,.int 3] (Rr l none none none none none) []:=rfl;rw [zdX (this.trans e)];exact zmL
 have e1:zjF [some (false,.scr l),none,none,none,none,none,none,none,none] []=zei (Rr l none none none none none) []:=rfl;show zb4 9 false zjF [.scr l] []=_;unfold zb4;show (match zjF [some (false,.scr l),none,none,none,none,none,none,none,none] [] with | .rt d S'=>Out.ok d S' | .nx _ S'=>_ | .ex c _ S'=>_ | _=>_)=_;rw [e1,e4]
end S2.L87
namespace L2
open PySem PySem.Spec PyProof.Rows
def zqT{CX:CXT}{P:Program}{w:World}{K:PySem.W.Frag}{mg:Z6}{base:Heap}{k:Nat}{f a:Addr}{name qual:Str}{params:Arguments}{body:List Stmt}{scope:Scope}{dV kV doc pm cdv ct oc:Value}{an od:Option Addr}
  {osl:Array (Option Value)} {N ps:List Str} {A:Around} {outer:List Env} {s:Shared} {H:Hp} {args:Args} {us:List Value} {vs:List V} {Q:VK} {E:XK} {t:TS} (lk:K.lookup f=some ⟨oc,od,.func (PySem.W.fnOf name qual params body scope dV kV doc pm an cdv ct),osl⟩) (hcd:PySem.W.codeIn K cdv qual=true) (S:FnScope N ps scope)
  (hr:Room (k+1) A) (e0:Env0 P w K mg base A outer s H) (hb:BindsTo s (PySem.W.fnOf name qual params body scope dV kV doc pm an cdv ct) args (ps.zip us)) (r:Vals vs us) (hl:vs.length=ps.length)
  (ht:PSs ((zfA CX P w K mg base N qual scope f cdv A outer s H E).inH a) body t) (hq:t { nx:=fun _ H'=>Q .non H',rt:=Q } (zbI N vs) H) :
  codeAny (model P w) (A.mark (some (.ref a))) (.call (.ref f) args) (fun r s'=>∃u,r=.ok (.ret u)/\CE outer P w H s Q u s') s:=by
 have KX:K.In s.heap:=e0.mod.kin.keeps fun b o e=>(e0.bs b o e).1
 have lim:s.heap.NoLimit:=e0.mod.nolimit.keeps fun b o e=>(e0.bs b o e).1
 have hkind:∀y∈ps.zip us,scope.names.lookup y.1=some .local\/(scope.names.lookup y.1=some .cell/\((cellsFrom (s.heap.objs.size+1) scope.names []).lookup y.1).isSome=true):=fun ⟨n,v⟩ hy=>by
  rcases S.par n (ycp hy).1 with q | q
  ·exact .inl q
  ·exact .inr ⟨q,ybX _ _ _ (.inl q)⟩
 refine ycH (A:=A.mark (some (.ref a))) hr.depth (KX _ _ lk) rfl S.co S.gen rfl (yc6 KX hcd) (hb _ _ _ _ ?_);refine yca S.kind hkind fun env he s1 x=>?_
 subst he;refine ⟨lim.keeps x.toInCall.keep,codeAny_func ?_⟩;have I:Inv (zfA CX P w K mg base N qual scope f cdv A outer s H E) [] (zbI N vs) H s1:=zdv S hr.hd e0 hl r x;refine ybb (ht [] s1 (zbI N vs) H _ (I.inH a) hq) (fun fl s' hs=>?_) fun e s' hs=>hs.elim
 have fin:∀{σ':St} {H':Hp} {v:V} {u:Value},Inv ((zfA CX P w K mg base N qual scope f cdv A outer s H E).inH a) [] σ' H' s'->zaI v u->Q v H'->CE outer P w H s Q u s' :=
  fun {σ' H' v u} J rv q=>⟨v,H',J.os,J.bare,J.base,J.hok,rv,q⟩
 cases fl with
 | ret u =>
  obtain ⟨v,σ',H',J,rv,q⟩:=hs;exact ⟨u,rfl,fin J rv q⟩
 | next =>
  obtain ⟨σ',H',J,q⟩:=hs;exact ⟨.none,rfl,fin (v:=V.non) (u:=Value.none) J rfl q⟩
 | brk =>
  obtain ⟨_,_,_,q⟩:=hs;exact False.elim q
 | cont =>
  obtain ⟨_,_,_,q⟩:=hs;exact False.elim q
end L2
namespace S2
open PySem PySem.Spec PyProof.Rows L2
noncomputable def zcl:List Str:=["NoFill","NoName","NoPlace","NoText","NoTile","Nothing","Unlike"]
section
variable{Y:Cx}{cl:Cf}{G:Genv}{k:Nat}{E:St->XK}
noncomputable def zh9(C:Str)(p q r t:Pos):Expr:=.Call (.Name "isinstance" p) [.Name "_law_kept" q,.Name C r] [] t
structure ClsCx(cl:Cf)(G:Genv)(k:Nat)(Y:Cx):Prop where
 gok:GOk cl G Y.prog Y.w Y.K Y.mg Y.base k
 kk:Y.K=cl.K
 un:Y.A.units+64<cLine
 nn:Y.N=(["_law_kept","_law_kinds"]:List Str)
 l0:Y.env.scope.names.lookup ("_law_kept":Str)=some .local
 l1:Y.env.scope.names.lookup ("_law_kinds":Str)=some .local
 gl:∀x∈(("isinstance":Str)::("ValueError":Str)::zcl),Gl Y x
 b1:G.blt "isinstance" = true
 b2:G.blt "ValueError" = true
 ex:∀x∈zcl,G.exc x=true
def ClsCx.bor0(c:ClsCx cl G k Y){p:Pos}:PE Y (.Name "_law_kept" p) (tH cl E (zau 0)):=ziC (by rw [c.nn];rfl) (.inl c.l0) (by decide) (by decide)
def ClsCx.bor1(c:ClsCx cl G k Y){p:Pos}:PE Y (.Name "_law_kinds" p) (tH cl E (zau 1)):=ziC (by rw [c.nn];rfl) (.inl c.l1) (by decide) (by decide)
def ClsCx.cls(c:ClsCx cl G k Y){C:Str}(h:C∈zcl){p q r t:Pos}:PE Y (zh9 C p q r t) (tE cl E (eUn (zhQ G.isx C) (zau 0))):=by
 have hv:C ≠ "ValueError":=by rintro rfl;revert h;decide
 have hd:(C == ("__debug__":Str))=false:=by
  cases e:(C == ("__debug__":Str)) with
  | false=>rfl
  | true=>rw [eq_of_beq e] at h;revert h;decide
 exact zgO (vC:=.ref (cl C)) (c.gl _ (.head _)) (c.gok.blt _ c.b1) (zgb (c.gl _ (.tail _ (.tail _ h))) (c.gok.exc C (c.ex C h)).1 rfl hd) (fun u r=>by rw [show u=Value.ref (cl C) from r];unfold clsV;rw [if_neg hv]) (fun d b hc=>c.gok.isx d _ b hc) rfl c.bor0
def ClsCx.clsV(c:ClsCx cl G k Y){p q r t:Pos}:PE Y (zh9 "ValueError" p q r t) (tE cl E (eUn (zhQ G.isx "ValueError") (zau 0))) :=
 zgO (vC:=.ty "ValueError") (c.gl _ (.head _)) (c.gok.blt _ c.b1) (zgc (c.gl _ (.tail _ (.head _))) (c.gok.blt _ c.b2) zef rfl (by decide) (by decide)) (fun u r=>by rw [show u=Value.type "ValueError" from r];rfl) (fun d b hc=>c.gok.isx d _ b hc) rfl c.bor0
def ClsCx.cnt(c:ClsCx cl G k Y){p ap cp q:Pos}{kk:Nat}(hl:(ap.endLine == cp.line)=true):PE Y (.Call (.Attribute (.Name "_law_kinds" p) "count" ap) [.Constant (.bool true) kk q] [] cp) (tE cl E (eMt zdG 1 (zae (.bl true)))) :=
 zkv PySem.F.slot_list_count PySem.F.type_list_count (zg2 c.kk c.un) zfD (by rw [c.nn];rfl) (.inl c.l1) (by decide) (by decide) (zbv (zem znI fun _=>.bl _)) rfl hl
def ClsCx.idx(c:ClsCx cl G k Y){p ap cp q:Pos}{kk:Nat}(hl:(ap.endLine == cp.line)=true):PE Y (.Call (.Attribute (.Name "_law_kinds" p) "index" ap) [.Constant (.bool true) kk q] [] cp) (tE cl E (eMt zbi 1 (zae (.bl true)))) :=
 zkv PySem.F.slot_list_index PySem.F.type_list_index (zg1 c.kk c.un) zfr (by rw [c.nn];rfl) (.inl c.l1) (by decide) (by decide) (zbv (zem znI fun _=>.bl _)) rfl hl
def ClsCx.nd(c:ClsCx cl G k Y):Y.N.Nodup:=by rw [c.nn];decide
def zcW{x:Str}{kk:Nat}{p:Pos}:PE Y (.Constant (.str x) kk p) (tE cl E (zae (.str x))):=zem zmc fun _=>.str _
def ClsCx.ok(c:ClsCx cl G k Y){a1 a2 a3 b1 b2 b3 b4 b5 c1 c2 c3 c4 c5 c6 c7 c8 d1 d2 d3 e1 e2 e3 e4 e5 e6 e7 f1 f2 f3 f4 f5 f6 f7 g1 g2 g3 g4 h1 h2 h3 h4 i1 i2 i3 i4 j1 j2 j3 j4 k1 k2 k3 k4 l1 l2 l3 l4 m1 m2 m3 m4 n1 n2 n3 n4:Pos}{x1 x2 x3 x4 y1 y2 y3 y4 y5 y6 y7:Nat}
  (hl1:(c2.endLine == c4.line)=true) (hl2:(f3.endLine == f5.line)=true) :
  PSs Y [.Assign [.Name "_law_kinds" a1] (.List [zh9 "NoFill" g1 g2 g3 g4,zh9 "NoName" h1 h2 h3 h4,zh9 "NoPlace" i1 i2 i3 i4,zh9 "NoText" j1 j2 j3 j4] a2) a3,
   .Assign [.Name "_law_kinds" b1] (.BinOp (.Name "_law_kinds" b2) .Add (.List [zh9 "NoTile" k1 k2 k3 k4,zh9 "Nothing" l1 l2 l3 l4,zh9 "Unlike" m1 m2 m3 m4] b3) b4) b5,
   .If (.BoolOp .Or [.Compare (.Call (.Attribute (.Name "_law_kinds" c1) "count" c2) [.Constant (.bool true) x1 c3] [] c4) [.NotEq] [.Constant (.int 1) x2 c5] c6,.UnaryOp .Not (zh9 "ValueError" n1 n2 n3 n4) c7] c8) [.Return (some (.Constant (.str "wrong") x3 d1)) d2] [] d3,
   .Return (some (.Subscript (.List [.Constant (.str "no fill") y1 e1,.Constant (.str "no name") y2 e2,.Constant (.str "no place") y3 e3,.Constant (.str "no text") y4 e4,.Constant (.str "no tile") y5 e5,.Constant (.str "nothing") y6 e6,.Constant (.str "unlike") y7 e7] f1) (.Call (.Attribute (.Name "_law_kinds" f2) "index" f3) [.Constant (.bool true) x4 f4] [] f5) f6)) f7]
   (tS cl E false (zdC G.isx)):=by
 have cs:∀{C:Str} {p q r t:Pos} {es:List Expr},starEach (zh9 C p q r t::es) Y.env=(false,eval (zh9 C p q r t) Y.env)::starEach es Y.env:=fun {C p q r t es}=>rfl
 have ks:∀{x:Str} {n:Nat} {p:Pos} {es:List Expr},starEach (.Constant (.str x) n p::es) Y.env=(false,eval (.Constant (.str x) n p) Y.env)::starEach es Y.env:=fun {x n p es}=>rfl
 refine zcJ (zf3 c.nd (by rw [c.nn];rfl) (.inl c.l1) (zgN (zak (c.cls (by decide)) (zak (c.cls (by decide)) (zak (c.cls (by decide)) (zak (c.cls (by decide)) zbh cs) cs) cs) cs)) (zcn rfl) (.inr c.l1)) ?_;refine zcJ (zl3 c.nd (by rw [c.nn];rfl) (.inl c.l1) (ziD zmj c.bor1 (zbv (zbc (zgN (zak (c.cls (by decide)) (zak (c.cls (by decide)) (zak (c.cls (by decide)) zbh cs) cs) cs))))) (zcn rfl) (.inr c.l1)) ?_;refine zcJ (zpc ?_ (zcJ (zis zcW) zgH) zgH) ?_
 ·exact PW.pt (zo8 (zl1 (zqg c.kk c.un) (zbv (c.cnt hl1)) (zbv (zem zmd fun _=>.int _)) rfl) (zl9 (zl0 (zaz c.clsV (fun _=>rfl)))))
 ·exact zcJ (zis (zpx (zqP c.kk) (zbv (zbc (zgN (zak zcW (zak zcW (zak zcW (zak zcW (zak zcW (zak zcW (zak zcW zbh ks) ks) ks) ks) ks) ks) ks)))) (zbv (c.idx hl2)) (fun _ _=>rfl))) zgH
def zj3{fs:Fs}{own:Bool}{n:Nat}{N:List Str}{vs:List V}{H:Hp}{Q:VK}{X:XK}(hsp:zfU cl n own (zb4 N.length own fs) vs H Q X):tS cl (fun _=>X) own fs { nx:=fun _ H'=>Q .non H',rt:=Q } (L2.zbI N vs) H:=by
 obtain ⟨hl,B,w,ds,S0,rfl,W,sh,q⟩:=hsp;have hdl:ds.length=vs.length:=sh.length.symm;refine ⟨B,w,ds.map (fun d=>some (false,d))++List.replicate (N.length-ds.length) none,S0,rfl,⟨W,?_,fun i o d hi=>?_⟩,?_⟩
 ·unfold L2.zbI;rw [yau,yau,yao,yao,yaO,yaO,hdl]
 ·by_cases hlt:i<ds.length
  ·rw [yaF (by rw [yao];exact hlt),yaq] at hi
   cases hdi:ds[i]? with
   | none=>rw [hdi] at hi;cases hi
   | some d' =>
    rw [hdi] at hi;cases hi;obtain ⟨v,e1,e2⟩:=sh.at hdi;refine ⟨v,?_,e2⟩;unfold L2.zbI;rw [yaF (by rw [yao];omega),yaq,e1];rfl
  ·rw [yav (by rw [yao];omega),ybz] at hi
   split at hi<;>cases hi
 ·unfold zb4 at q
  cases hf:fs (ds.map (fun d=>some (false,d))++List.replicate (N.length-ds.length) none) S0 with
  | bad=>rwa [hf] at q
  | bk _ _=>rw [hf] at q;exact q.elim
  | ct _ _=>rw [hf] at q;exact q.elim
  | rt d S'=>rwa [hf] at q
  | ex c ρ' S'=>rw [hf] at q;exact fun σ' w' R' F'=>q w' R'.wd F'
  | nx ρ' S' =>
   rw [hf] at q;dsimp only at q
   cases own with
   | true=>exact q.elim
   | false=>exact fun σ' w' R' F'=>q .non w' R'.wd F' .non
end
structure ClsFn(cl:Cf)(G:Genv)(K:PySem.W.Frag)(st:Stmt)(f:Addr)(fd:FuncData):Prop where
 fn:Fun K "_law_class" "_law_class" st f fd
 sc:FnScope ["_law_kept","_law_kinds"] ["_law_kept"] (zab st)
 l0:(zab st).names.lookup ("_law_kept":Str)=some .local
 l1:(zab st).names.lookup ("_law_kinds":Str)=some .local
 gl:∀x∈(("isinstance":Str)::("ValueError":Str)::zcl),(zab st).names.lookup x=some .globalImplicit
 b1:G.blt "isinstance" = true
 b2:G.blt "ValueError" = true
 ex:∀x∈zcl,G.exc x=true
 ok:∀(k:Nat) (Y:Cx) (E:St->XK),ClsCx cl G k Y->PSs Y (zay st) (tS cl E false (zdC G.isx))
 bind:∀us:List Value,us.length=1->bindArgs fd ⟨us,[]⟩=pure ([("_law_kept":Str)].zip us)
def zl8(G:Genv):List D->Sto->Out D:=zb4 2 false (zdC G.isx)
noncomputable def zmU(cl:Cf)(G:Genv)(i:Nat):TE:=fun σ H Q=>∃v,σ[i]?=some (some v)/\zfU cl 1 false (zl8 G) [v] H Q fun _ _ _=>False
def ziB{X:Cx}{cl:Cf}{G:Genv}{k i:Nat}{n:Str}{a f:Addr}{fd:FuncData}{st:Stmt}{p q pos:Pos}(hr:Room (k+1) X.A)(gok:GOk cl G X.prog X.w X.K X.mg X.base k)(C:ClsFn cl G X.K st f fd)(hkk:X.K=cl.K)(hm:X.mg "_law_class" = some (.ref f))(hk:PySem.W.keepIn X.K (.ref f)=true)(hg:Gl X "_law_class")
  (hN:X.N[i]?=some n) (hv:Vis X.env.scope n) (hd:(n == ("__debug__":Str))=false) (hcd:(n == ("__classdict__":Str))=false):PE (X.inH a) (.Call (.Name "_law_class" p) [.Name n q] [] pos) (zmU cl G i):=by
 intro pins s σ H Q I h;obtain ⟨v,h1,h2⟩:=h;have ha:PA (X.inH a) [.Name n q] _:=zat (zaU (X:=X.inH a) (pos:=q) hN hv hd hcd) zaV rfl;refine ya9 (zbQ I hg hm ?_ (by decide));refine yb1 (h₀:=X.base) I.ok.mod.kin hk (thn (ha pos pins s σ H (fun vs H1=>vs=[v]/\H1=H) I ⟨v,h1,rfl,rfl⟩) fun us s1 ⟨vs,H1,I1,r,e1,e2⟩=>⟨I1.kIn,?_⟩) rfl rfl;subst e1 e2;have okX:X.Ok:=⟨I1.ok.mod,I1.ok.kind,I1.ok.glob,I1.ok.blt,I1.ok.above,I1.ok.inj,I1.ok.has,I1.ok.cab,fun _=>hr.hd,I1.ok.frames,I1.ok.stk,I1.ok.exf,I1.ok.bs,I1.ok.bsz,I1.ok.noex,I1.ok.exfs,I1.ok.funs,I1.ok.frf⟩;have J:=I1.outH okX;obtain ⟨oc,od,kV,doc,pm,an,cdv,ct,osl,rfl,lk,hc⟩:=C.fn.ex;have hl:us.length=1:=r.length.symm
 have cx:ClsCx cl G k ((zfA (CXE X.prog X.w) X.prog X.w X.K X.mg X.base ["_law_kept","_law_kinds"] "_law_class" (zab st) f cdv X.A X.stack s1 H1 (fun _ _ _=>False)).inH a) :=
  ⟨gok,hkk,(by have:=hr.un;show X.A.units+3+64<cLine;omega),rfl,C.l0,C.l1,fun x hx=>C.gl x hx,C.b1,C.b2,C.ex⟩
 refine ycV (ybB (zqT (CX:=CXE X.prog X.w) (E:=fun _ _ _=>False) (a:=a) lk hc C.sc hr J.env0 (.of_eq (C.bind us hl)) r rfl (C.ok k _ (fun _ _ _ _=>False) cx) (zj3 (N:=["_law_kept","_law_kinds"]) h2)) fun r s' hq=>?_);obtain ⟨u,rfl,ce⟩:=hq;obtain ⟨w,H',J',rw',q'⟩:=J.after ce;exact ⟨w,H',J'.inH a,rw',q'⟩
end S2
namespace L2
open PySem PySem.Spec PyProof.Rows
def ztm{CX:CXT}{P:Program}{w:World}{K:PySem.W.Frag}{mg:Z6}{base:Heap}{k:Nat}{f:Addr}{name qual:Str}{params:Arguments}{body:List Stmt}{scope:Scope}{dV kV doc pm cdv ct oc:Value}{an od:Option Addr}
  {osl:Array (Option Value)} {N ps:List Str} {A:Around} {outer:List Env} {s:Shared} {H:Hp} {args:Args} {us:List Value} {vs:List V} {Q:VK} {E:XK} {t:TS} (lk:K.lookup f=some ⟨oc,od,.func (PySem.W.fnOf name qual params body scope dV kV doc pm an cdv ct),osl⟩) (hcd:PySem.W.codeIn K cdv qual=true) (S:FnScope N ps scope)
  (hr:Room (k+1) A) (e0:Env0 P w K mg base A outer s H) (hb:BindsTo s (PySem.W.fnOf name qual params body scope dV kV doc pm an cdv ct) args (ps.zip us)) (r:Vals vs us) (hl:vs.length=ps.length)
  (ht:PSs (zfA CX P w K mg base N qual scope f cdv A outer s H E) body t) (hq:t { nx:=fun _ H'=>Q .non H',rt:=Q } (zbI N vs) H) :
  codeAny (model P w) A (.call (.ref f) args) (CR CX outer P w H s Q E) s:=by
 have KX:K.In s.heap:=e0.mod.kin.keeps fun b o e=>(e0.bs b o e).1
 have lim:s.heap.NoLimit:=e0.mod.nolimit.keeps fun b o e=>(e0.bs b o e).1
 have hkind:∀y∈ps.zip us,scope.names.lookup y.1=some .local\/(scope.names.lookup y.1=some .cell/\((cellsFrom (s.heap.objs.size+1) scope.names []).lookup y.1).isSome=true):=fun ⟨n,v⟩ hy=>by
  rcases S.par n (ycp hy).1 with q | q
  ·exact .inl q
  ·exact .inr ⟨q,ybX _ _ _ (.inl q)⟩
 refine ycH hr.depth (KX _ _ lk) rfl S.co S.gen rfl (yc6 KX hcd) (hb _ _ _ _ ?_);refine yca S.kind hkind fun env he s1 x=>?_
 subst he;refine ⟨lim.keeps x.toInCall.keep,codeAny_func ?_⟩;have I:Inv (zfA CX P w K mg base N qual scope f cdv A outer s H E) [] (zbI N vs) H s1:=zdv S hr.hd e0 hl r x;refine ybb (ht [] s1 (zbI N vs) H _ I hq) (fun fl s' hs=>?_) fun e s' hs=>hs
 cases fl with
 | ret u =>
  obtain ⟨v,σ',H',J,rv,q⟩:=hs;exact ⟨v,H',J.os,J.bare,J.base,J.hok,rv,q⟩
 | next =>
  obtain ⟨σ',H',J,q⟩:=hs;exact ⟨.non,H',J.os,J.bare,J.base,J.hok,rfl,q⟩
 | brk =>
  obtain ⟨_,_,_,q⟩:=hs;exact False.elim q
 | cont =>
  obtain ⟨_,_,_,q⟩:=hs;exact False.elim q
section
variable{X:Cx}{CX:CXT}{k:Nat}{N:List Str}{qual x:Str}{params:Arguments}{body:Expr}{sc:Scope}{f c:Addr}{clos:List (Str×Addr)}{E:St->XK}{vs:List V}{pm ctv:Value}{of oc:Obj}{uf uc:HO}{te:St->TE}{p pos:Pos}{i:Nat}
noncomputable def zil(i:Nat)(f:Addr)(vs:List V)(te:St->TE):TE:=fun σ H Q=>σ[i]?=some (some (.ref f))/\te σ (vs.map some) H Q
def zkS(S:LamSc N sc)(hr:Room (k+1) X.A)(hN:X.N[i]?=some x)(hv:Vis X.env.scope x)(L:LamAt X.s₀.heap X.H₀ f params qual body sc N vs clos c pm ctv)(hf:X.H₀ f=some (.frz of uf))(hc:X.H₀ c=some (.frz oc uc))(h0:HOk X.prog X.w X.H₀ X.s₀.heap)
  (hx:∀x a,clos.lookup x=some a->a ∉ X.fs/\a ∉ X.ex) (hb:bindArgs (PySem.W.kla_fn "<lambda>" qual params body sc clos pm (.ref c) ctv) ⟨[],[]⟩=pure [])
  (hp:∀(pins:Z3) (σ:St) (H:Hp) (s:Shared) (e:Value) (s':Shared),Inv X pins σ H s->CX X.stack H s (E σ) e s'->X.xe e s')
  (he:∀σ s H,Room k (X.A.deeper (PySem.W.envX qual sc s.heap.objs.size f (.ref c) clos))->PE (zfB CX X.prog X.w X.K X.mg X.base N qual sc f (.ref c) clos X.A X.stack s H (E σ)) body (te σ))
  (hd:(x == ("__debug__":Str))=false) (hcd:(x == ("__classdict__":Str))=false):PE X (.Call (.Name x p) [] [] pos) (zil i f vs te):=by
 intro pins s σ H Q I h;obtain ⟨h1,h2⟩:=h;refine ya9 (thn (zaU (pos:=p) hN hv hd hcd pins s σ H (fun v H'=>v=.ref f/\H'=H) I ⟨_,h1,rfl,rfl⟩) fun u s1 ⟨v,H1,I1,r,e1,e2⟩=>?_);subst e1 e2;cases r;have L1:=I1.lamAt L hf hc h0 hx;refine PySem.W.callWith_F0 ⟨_,_,_,_,L1.fn⟩ ?_;refine ycV (ybB (znZ (CX:=CX) (E:=E σ) S hr I1.env0 L1 hb (he σ s1 H1) h2) fun r s' hq=>?_)
 cases r with
 | error e=>exact hp pins σ H1 s1 e s' I1 hq
 | ok fl =>
  cases fl with
  | ret u=>exact I1.after hq
  | next=>exact False.elim hq
  | brk=>exact False.elim hq
  | cont=>exact False.elim hq
end
def zsL{P:Program}{w:World}{K:PySem.W.Frag}{mg:Z6}{base:Heap}{N:List Str}{qual:Str}{scope:Scope}{f:Addr}{cd:Value}{clos:List (Str×Addr)}{A:Around}{outer:List Env}{s:Shared}{H:Hp}{E:XK} :
  zmF (CXE P w) (zfB (CXE P w) P w K mg base N qual scope f cd clos A outer s H E) E:=fun pins σ H1 s1 e s' I q =>
 zg4 (X:=zfB (CXE P w) P w K mg base N qual scope f cd clos A outer s H E) I rfl rfl rfl q
def zgp{scope:Scope}{env:Env}{cl:List (Str×Addr)}(h:∀y∈scope.names,y.2=.free->∃c,env.cells.lookup y.1=some c)(hc:closureFor scope env=pure cl):∀y c,cl.lookup y=some c->(y,NameKind.free)∈scope.names:=by
 have key:∀(l:List (Str×NameKind)) (cs:List (Str×Addr)),(∀y∈l,y.2=.free->∃c,env.cells.lookup y.1=some c) →
   ∃cl,(forIn l cs fun (x:Str×NameKind) (r:List (Str×Addr))=>(if (x.2 == NameKind.free)=true then (do let c ← cellOf env x.1;pure (ForInStep.yield ((x.1,c)::r))) else pure (ForInStep.yield r):Sem (ForInStep (List (Str×Addr)))))=pure cl ∧
    ∀y c,cl.lookup y=some c->(y,NameKind.free)∈l\/∃c',cs.lookup y=some c':=by
  intro l
  induction l with
  | nil=>intro cs _;exact ⟨cs,rfl,fun y c e=>.inr ⟨c,e⟩⟩
  | cons p l ih =>
   intro cs hl;obtain ⟨n,k⟩:=p
   by_cases hk:(k == NameKind.free)=true
   ·have ek:k=.free:=eq_of_beq hk;obtain ⟨c,ec⟩:=hl (n,k) yaE ek;obtain ⟨cl,e1,e2⟩:=ih ((n,c)::cs) (fun y hy=>hl y (yar _ hy));refine ⟨cl,?_,fun y c' e=>?_⟩
    ·rw [yb5];show ((if (k == NameKind.free)=true then _ else _) >>= _)=_;rw [if_pos hk]
     have ecell:cellOf env n=pure c:=by unfold cellOf;rw [ec]
     show (cellOf env n >>= _) >>= _=_;rw [ecell];simpa using e1
    ·rcases e2 y c' e with z | ⟨c2,z⟩
     ·exact .inl (yar _ z)
     ·rw [yaw] at z
      cases hq:y == n with
      | true=>rw [eq_of_beq hq,<-ek];exact .inl yaE
      | false=>rw [hq] at z;exact .inr ⟨c2,z⟩
   ·obtain ⟨cl,e1,e2⟩:=ih cs (fun y hy=>hl y (yar _ hy));refine ⟨cl,?_,fun y c' e=>(e2 y c' e).elim (fun z=>.inl (yar _ z)) .inr⟩;rw [yb5];show ((if (k == NameKind.free)=true then _ else _) >>= _)=_;rw [if_neg hk];simpa using e1
 obtain ⟨cl',e1,e2⟩:=key scope.names [] h
 have e3:closureFor scope env=pure cl':=by
  unfold closureFor;show ((forIn scope.names [] _:Sem (List (Str×Addr))) >>= _)=_;simpa using e1
 have e4:cl=cl':=by
  have:=hc.symm.trans e3;injection this
 subst e4
 exact fun y c e=>(e2 y c e).elim (fun z=>z) fun ⟨_,z⟩=>by cases z
end L2
namespace S2
open PySem PySem.Spec PyProof.Rows L2
structure ToldFn(K:PySem.W.Frag)(st:Stmt)(f:Addr)(fd:FuncData):Prop where
 fn:Fun K "_law_told" "_law_told" st f fd
 sc:FnScope ["_law_deed","e"] ["_law_deed"] (zab st)
 l0:(zab st).names.lookup ("_law_deed":Str)=some .local
 l1:(zab st).names.lookup ("e":Str)=some .local
 g1:(zab st).names.lookup ("FloorError":Str)=some .globalImplicit
 g2:(zab st).names.lookup ("_law_class":Str)=some .globalImplicit
 body:∃p1 p2 p3 p4 p5 p6 p7 p8 p9 p10:Pos,zay st=[.Try [.Return (some (.Call (.Name "_law_deed" p1) [] [] p2)) p3] [.ExceptHandler (some (.Name "FloorError" p4)) (some "e") [.Return (some (.Call (.Name "_law_class" p5) [.Name "e" p6] [] p7)) p8] p9] [] [] p10]
 bind:∀us:List Value,us.length=1->bindArgs fd ⟨us,[]⟩=pure ([("_law_deed":Str)].zip us)
def ziH{G:Genv}{c:Str}{S S':Sto}{d:D}(h:zq9 G.isx c S=.ok d S'):zl8 G [.exc c] S=.ok d S':=by
 unfold zq9 at h;show zb4 2 false (zdC G.isx) [.exc c] S=_;unfold zb4;show (match zdC G.isx [some (false,.exc c),none] S with | .rt d S'=>Out.ok d S' | .nx _ S'=>_ | .ex c _ S'=>_ | _=>_)=_
 revert h
 cases zdC G.isx [some (false,.exc c),none] S with
 | rt d0 S0=>exact fun h=>h
 | _=>intro h;cases h
def zgA{H:Hp}{a b:Addr}{x y:HO}(n:a≠b):upd (upd H a x) b y=upd (upd H b y) a x:=by
 funext c
 by_cases h1:c=a
 ·subst h1;rw [zad n,zaj,zaj]
 ·by_cases h2:c=b
  ·subst h2;rw [zaj,zad h1,zaj]
  ·rw [zad h2,zad h1,zad h1,zad h2]
def zh5{pos pos':Pos}{c v:Value}(l:List Value)(h:TriplesOk l)(hn:codeAmong pos' (l++[rawInt pos.line,rawInt pos.col,c])=some v):codeAmong pos' l=some v\/v=c:=by
 fun_induction TriplesOk l with
 | case1 =>
  simp only [List.nil_append,codeAmong,rawInt] at hn;split at hn
  ·exact .inr (Option.some.inj hn).symm
  ·cases hn
 | case2 a t b u x za9 ih =>
  simp only [List.cons_append,codeAmong] at hn ⊢;split at hn
  ·rename_i hc;rw [if_pos hc];exact .inl hn
  ·rename_i hc;rw [if_neg hc];exact ih h hn
 | case3 l h1 h2=>exact h.elim
section
variable{P:Program}{wo:PySem.World}{K:PySem.W.Frag}{mg:Z6}{base:Heap}{cl:Cf}{G:Genv}{j:Nat}
def zoX{st st2:Stmt}{ft fc cd Pt:Addr}{fd fd2:FuncData}{q:Str}{params:Arguments}{body:Expr}{sc:Scope}{lp:Pos}{N:List Str}{fb:Fe}
  (T:ToldFn K st ft fd) (C:ClsFn cl G K st2 fc fd2) (gok:GOk cl G P wo K mg base j) (hkk:K=cl.K)
  (m1:mg "_law_told" = some (.ref ft)) (k1:PySem.W.keepIn K (.ref ft)=true) (m2:mg "_law_class" = some (.ref fc)) (k2:PySem.W.keepIn K (.ref fc)=true) (hfe:G.exc "FloorError" = true)
  (hB:zlV mg base) (hC:PySem.W.CodeHd base cd Pt) (htb:cl.tabs Pt=some (q ++ "<lambda>")) (LS:LamSc N sc) (nd:N.Nodup) (hfr:∀y∈sc.names,y.2=.free->y.1∈N) (hdf:∀env,defaultsOf params env=([],[])) (hbn:∀clos pm c ctv,bindArgs (PySem.W.kla_fn "<lambda>" (q ++ "<lambda>") params body sc clos pm (.ref c) ctv) ⟨[],[]⟩=pure [])
  (hE:∀(f c:Addr) (clos:List (Str×Addr)) (A:Around) (outer:List PySem.Env) (s:Shared) (H:Hp) (E':XK),Room j (A.deeper (PySem.W.envX (q ++ "<lambda>") sc s.heap.objs.size f (.ref c) clos))->PE (zfB (CXE P wo) P wo K mg base N (q ++ "<lambda>") sc f (.ref c) clos A outer s H E') body (tE cl (fun _=>E') fb)) :
  zrs cl G.und G.isx P wo K mg base (j+2) (some (cd,q)) (.Lambda params body sc lp) N fb:=by
 intro X E caps p pos eP eW eK eM eB hr hcalm hg hcod hcaps;subst eP eW eK eM eB;obtain ⟨hcd,hq⟩:=hcod _ rfl;dsimp only at hcd hq;intro pins s σ H Q I h;obtain ⟨B,w,ρ,S,rfl,R,h⟩:=h;unfold zbS at h
 cases hds:zhY ρ caps with
 | none=>rw [hds] at h;exact h.elim
 | some ds =>
 rw [hds] at h;dsimp only at h;obtain ⟨vs,hvl,hvs,sh⟩:=zhi R hds
 obtain ⟨clos,hclos,hcl1,hcl2⟩:=zed (scope:=sc) (env:=X.env) fun y hy hf=>by
  obtain ⟨i,hi⟩:=ycM.mp (hfr y hy hf)
  have hlt:i<caps.length:=by rw [hcaps.len];exact (yai.mp hi).1
  exact I.ok.has y.1 (.inl (hcaps.at' i y.1 _ hi (yac hlt)).2.1)
 have hlam:=zpX (X:=X) (params:=params) (body:=body) (sc:=sc) (pos:=lp) hcd hC hB hclos (hdf _);rw [hq] at hlam;have ha:PA X [.Lambda params body sc lp] _:=zat hlam zaV rfl;refine ya9 (zbQ I hg m1 ?_ (by decide))
 refine yb1 (h₀:=X.base) I.ok.mod.kin k1 (thn (ha pos pins s σ w.H (fun xs H1=>∃f c oc ctv w1,xs=[.ref f]/\w1.H=H1/\Rel cl B σ w1 ρ S/\Fut w w1 ∧
   w1.H f=some (.frz (PySem.W.kla_obj "<lambda>" (q ++ "<lambda>") params body sc clos ((X.mg "__name__").getD .none) c ctv) (.own f))/\w1.H c=some (.frz oc (.own c))/\zht (q ++ "<lambda>") oc) I ?rd) fun us s1 ⟨xs,H1,I1,r1,q1⟩=>⟨I1.kIn,?go⟩) rfl rfl
 case rd =>
  obtain ⟨ps,t1,t2,t3⟩:=R.wd.tab Pt _ htb;refine ⟨ps,t1,t3.1,fun hca f c oc ctv hf hc hfc hco=>?_,fun cv hca=>?_⟩
  ·have g1:=zah (w:=w) hc (.frz oc (.own c))
   have hf':(w.add c (.frz oc (.own c))).H f=none:=by show upd w.H c _ f=none;rw [zad hfc];exact hf
   have g2:=zah (w:=w.add c (.frz oc (.own c))) hf' (.frz (PySem.W.kla_obj "<lambda>" (q ++ "<lambda>") params body sc clos ((X.mg "__name__").getD .none) c ctv) (.own f));have R2:=(R.grow g1).grow g2
   have pc:c≠Pt:=fun z=>by rw [z,t1] at hc;cases hc
   have pf:f≠Pt:=fun z=>by rw [z,t1] at hf;cases hf
   have a1:=g1.keep Pt _ t1;have a2:=g2.keep Pt _ a1.1;have c1:(w.add c (.frz oc (.own c))).H c=some (.frz oc (.own c)):=zdM;have c2:=g2.keep c _ c1
   obtain ⟨R3,F3⟩:=R2.tabUp (ps':=ps++#[rawInt lp.line,rawInt lp.col,.ref c]) a2.1 (a2.2.trans (a1.2.trans t2)) fun q' hq'=>by
    have eq':q'=q ++ "<lambda>":=by rw [htb] at hq';exact (Option.some.inj hq').symm
    subst eq';have t4:=(t3.up g1.fut).up g2.fut;refine ⟨by rw [Array.toList_append];exact TriplesOk_snoc _ _ _ _ t3.1,fun pos' cv e=>?_⟩;rw [Array.toList_append] at e
    rcases zh5 _ t3.1 e with z | z
    ·exact t4.2 pos' cv z
    ·exact ⟨c,oc,z,⟨c2.1,c2.2.trans zcc⟩,hco⟩
   refine ⟨f,c,oc,ctv,_,rfl,?_,R3,g1.fut.trans (g2.fut.trans F3),?_,?_,hco⟩
   ·show upd (upd (upd w.H c _) f _) Pt _=_;rw [zgA pf,zgA pc]
   ·show upd (upd (upd w.H c _) f _) Pt _ f=_;rw [zad pf,zaj]
   ·show upd (upd (upd w.H c _) f _) Pt _ c=_;rw [zad pc,zad (fun z=>hfc z.symm),zaj]
  ·obtain ⟨c,oc,rfl,hcw,hco⟩:=t3.2 lp cv hca;refine ⟨c,oc,rfl,hcw.1,hco,fun f ctv hf=>?_⟩;have g1:=zah (w:=w) hf (.frz (PySem.W.kla_obj "<lambda>" (q ++ "<lambda>") params body sc clos ((X.mg "__name__").getD .none) c ctv) (.own f));exact ⟨f,c,oc,ctv,w.add f _,rfl,rfl,R.grow g1,g1.fut,zdM,(g1.keep c _ hcw.1).1,hco⟩
 case go =>
  obtain ⟨f,c,oc,ctv,w1,rfl,rfl,R1,F1,hf1,hc1,⟨us1,tt,hd1,hv1⟩⟩:=q1
  have hmem:=zgp (scope:=sc) (env:=X.env) (cl:=clos) (fun y hy hf=>by
   obtain ⟨i,hi⟩:=ycM.mp (hfr y hy hf)
   have hlt:i<caps.length:=by rw [hcaps.len];exact (yai.mp hi).1
   exact I.ok.has y.1 (.inl (hcaps.at' i y.1 _ hi (yac hlt)).2.1)) hclos
  have L:LamAt s1.heap w1.H f params (q ++ "<lambda>") body sc N vs clos c ((X.mg "__name__").getD .none) ctv:={
   fn:=(I1.hok f _ hf1).1
   code:=⟨c,oc,us1,tt,rfl,(I1.hok c _ hc1).1,hd1,hv1⟩
   inj:=fun x y a h1 h2=>I1.ok.inj x y a (hcl1 x a h1) (hcl1 y a h2)
   has:=fun x hx=>hcl2 x (yax hx)
   cell:=fun x a e=>⟨I1.freeC x a (hcl1 x a e),I1.cell x a (hcl1 x a e)⟩
   val:=fun i x v h1 h2=>by
    have hlt:i<caps.length:=by rw [hcaps.len];exact (yai.mp h1).1
    obtain ⟨b1,b2,_⟩:=hcaps.at' i x _ h1 (yac hlt);obtain ⟨m,hn,hl⟩:=I1.loc;obtain ⟨u,rv,lk⟩:=hl _ x v b1 (hvs i _ v (yac hlt) h2) (.inr (.inl b2));obtain ⟨a,ea⟩:=hcl2 x (yax (LS.free x (ya8 h1)))
    rcases lk with ⟨kl,_⟩ | ⟨_,a',ec,ic⟩
    ·have kl':X.env.scope.names.lookup x=some .local:=kl;rw [b2] at kl';cases kl'
    ·have:=(hcl1 x a ea).symm.trans ec;cases this;exact ⟨u,a,rv,ea,ic⟩
   len:=hvl.trans hcaps.len }
  have hx:∀x a,clos.lookup x=some a->a ∉ frs X.stack/\a ∉ ([]:List Addr):=fun x a e=>⟨fun hb=>by
   rcases yan.mp (I1.stkSub a hb) with z | z
   ·exact I1.cne x a (hcl1 x a e) z
   ·obtain ⟨i,hi⟩:=ycM.mp (hfr (x,.free) (hmem x a e) rfl)
    have hlt:i<caps.length:=by rw [hcaps.len];exact (yai.mp hi).1
    have hge:=I1.ok.cab x a (hcaps.at' i x _ hi (yac hlt)).2.2 (hcl1 x a e);obtain ⟨_,o,ho,_⟩:=I1.ok.funs.mem z
    exact absurd (yak (yaj ho) hge) (yaL _),by simp⟩
  obtain ⟨oc',od,kV,doc,pm',an,cdv,ct,osl,rfl,lk,hc'⟩:=T.fn.ex;obtain ⟨p1,p2,p3,p4,p5,p6,p7,p8,p9,p10,hbody⟩:=T.body
  cases r1 with
  | cons r1 r2 =>
  cases r2;cases r1;have hr1:Room (j+1) (X.A.deeper (envOfC "_law_told" (zab st) s1.heap.objs.size ft cdv)):=hr.deeper _;refine ycV (ybB (ztm (CX:=CXE X.prog X.w) (E:=fun _ _ _=>False) (k:=j+1) (Q:=Q) (vs:=[.ref f]) (t:=fun De σ H=>zo0 (zil 0 f vs fun σ'=>tE cl (fun _=>zrA X.K (cl "FloorError") 1 (zo0 (zmU cl G 1)) De σ') fb) De σ H) lk hc' T.sc hr I1.env0 (.of_eq (T.bind _ rfl)) (.cons rfl .nil) rfl ?bd ?rd2) fun r s' hq=>?_)
  case bd =>
   rw [hbody];refine zes (ziL (tb:=fun E'=>zo0 (zil 0 f vs fun σ'=>tE cl (fun _=>E' σ') fb)) (th:=zo0 (zmU cl G 1)) rfl rfl T.sc.nd rfl T.l1 T.g1 (gok.exc _ hfe).1 (gok.exc _ hfe).2 (by decide) (fun pins' E'=>?_) (fun a=>?_) (by decide))
   ·exact zes (ze8 (zkS (CX:=CXE X.prog X.w) (E:=E') (k:=j) (te:=fun σ'=>tE cl (fun _=>E' σ') fb) LS hr1 rfl (.inl T.l0) L hf1 hc1 I1.hok hx (hbn _ _ _ _) (fun pins'' σ' H' s'' e s3 J qq=>⟨σ',H',s'',zbq J,qq⟩) (fun σ' s'' H' hr'=>hE f c clos _ _ s'' H' (E' σ') hr') (by decide) (by decide)))
   ·exact zes (ze8 (ziB (k:=j) hr1 gok C hkk m2 k2 T.g2 rfl (.inl T.l1) (by decide) (by decide)))
  case rd2 =>
   refine ⟨rfl,w1.base,w1.inn,ds.map (fun d=>some (false,d)),S,rfl,⟨R1.wd.enter,?_,fun i o d hi=>?_⟩,?_⟩
   ·rw [yao,yao];exact sh.length
   ·rw [yaq] at hi
    cases hdi:ds[i]? with
    | none=>rw [hdi] at hi;cases hi
    | some d' =>
     rw [hdi] at hi;cases hi;obtain ⟨v,e1,e2⟩:=((sh.up F1).up (za6 w1)).at hdi;exact ⟨v,by rw [yaq,e1];rfl,e2⟩
   ·cases hfb:fb (ds.map fun d=>some (false,d)) S with
    | bad=>rw [hfb] at h;exact h.elim
    | ok d S' =>
     rw [hfb] at h;intro v w' R' F' s';obtain ⟨Rb,Fb⟩:=R1.leave R'.wd F';exact h v (w1.back w') Rb (F1.trans Fb) (s'.up (zbj R'.wd))
    | exc c0 S' =>
     rw [hfb] at h;dsimp only at h
     cases hu:G.und c0 "FloorError" with
     | false=>rw [hu] at h;exact h.elim
     | true =>
      rw [hu,if_pos rfl] at h;intro w' R' F';refine ⟨cl c0,rfl,gok.und _ _ hu,fun a ob ha hob=>?_⟩;have g:=zah (w:=w') ha (.frz ob (.own a));refine ⟨.ref a,rfl,rfl,w1.base,w'.add a (.frz ob (.own a)),[.exc c0],S',rfl,R'.wd.grow g,.cons (.exc zdM zcc hob) .nil,?_⟩
      cases hcr:zq9 G.isx c0 S' with
      | bad=>rw [hcr] at h;exact h.elim
      | exc c2 S2 =>
       unfold zq9 at hcr
       split at hcr<;>cases hcr
      | ok d S2 =>
       rw [hcr] at h;rw [ziH hcr];intro v w'' W'' F'' rv;obtain ⟨Rb,Fb⟩:=R1.leave W'' ((F'.trans g.fut).trans F'');exact h v (w1.back w'') Rb (F1.trans Fb) (Shd.up (zbj W'') rv)
  ·cases r with
   | error e=>obtain ⟨_,_,_,_,_,_,_,_,_,_,_,_,_,_,z⟩:=hq;exact z.elim
   | ok fl =>
    cases fl with
    | ret u=>exact I1.after hq
    | next=>exact False.elim hq
    | brk=>exact False.elim hq
    | cont=>exact False.elim hq
end
def zfs(sc:Scope):List Str:=(sc.names.filter fun y=>y.2 == .free).map (·.1)
noncomputable def zqm:Arguments:={ posonlyargs:=[],args:=[],vararg:=none,kwonlyargs:=[],kw_defaults:=[],kwarg:=none,defaults:=[] }
noncomputable def zob(p:Arguments):Bool:=match p with | ⟨[],[],none,[],[],none,[]⟩=>true | _=>false
def zlk{p:Arguments}(h:zob p=true):p=zqm:=by
 unfold zob at h;split at h
 ·rfl
 ·cases h
def zqt(sc:Scope):Bool:=decide (sc.kind=.function)&&!sc.isCoroutine&&!sc.isGenerator&&sc.names.all (fun y=>!(y.2 == .cell))&&(zfs sc).all (fun x=>decide (sc.names.lookup x=some .free))&&decide (zfs sc).Nodup
def zn0(G:Genv):Expr->Option (List Str×Fe)
 | .Lambda params body sc _=>if zob params&&zqt sc then (zrY G 40 sc.names (zfs sc) body).map fun p=>(zfs sc,p.2) else none
 | _=>none
noncomputable def Genv.withLam(G:Genv)(cd:Addr)(q:Str):Genv:={ G with lam:=zn0 G,cod:=some (cd,q) }
def GOk.lamUp{P:Program}{wo:PySem.World}{K:PySem.W.Frag}{mg:Z6}{base:Heap}{cl:Cf}{G:Genv}{j:Nat}{st st2:Stmt}{ft fc cd Pt:Addr}{fd fd2:FuncData}{q:Str}
  (gok:GOk cl G P wo K mg base j) (hc0:G.cod=none) (T:ToldFn K st ft fd) (C:ClsFn cl G K st2 fc fd2) (hkk:K=cl.K) (hP:P=cl.P) (hW:wo=cl.wo)
  (m1:mg "_law_told" = some (.ref ft)) (k1:PySem.W.keepIn K (.ref ft)=true) (m2:mg "_law_class" = some (.ref fc)) (k2:PySem.W.keepIn K (.ref fc)=true) (hfe:G.exc "FloorError" = true)
  (hB:zlV mg base) (hC:PySem.W.CodeHd base cd Pt) (htb:cl.tabs Pt=some (q ++ "<lambda>")):GOk cl (G.withLam cd q) P wo K mg base (j+2) where
 con:=gok.con
 fn:=fun y fj h=>by
  obtain ⟨f',fd',ps',h1,h2,h3,h4⟩:=gok.fn y fj h;exact ⟨f',fd',ps',h1,h2,h3,h4.mono (by omega)⟩
 blt:=gok.blt
 exc:=gok.exc
 und:=gok.und
 isx:=gok.isx
 fk:=gok.fk
 mt:=fun m c fi h=>by
  obtain ⟨f',fd',ps',h1,h2,h3,h4⟩:=gok.mt m c fi h;exact ⟨f',fd',ps',h1,h2,h3,h4.mono (by omega)⟩
 mks:=fun c dds fi h=>by
  obtain ⟨f',fd',ps',dvs,ds,i,hi,z⟩:=gok.mks c dds fi h;exact ⟨f',fd',ps',dvs,ds,i,by omega,z⟩
 tl:=fun e N fb h=>by
  have h':zn0 G e=some (N,fb):=h;unfold zn0 at h';split at h'
  ·rename_i params body sc lp;split at h'
   ·rename_i hok;rw [yab] at hok;obtain ⟨⟨o,f⟩,h1,h2⟩:=ycB.mp h';cases h2;have ep:=zlk hok.1;subst ep;have hs:=hok.2;unfold zqt at hs;simp only [yab,yaB,ybE,ybv] at hs;obtain ⟨⟨⟨⟨⟨s1,s2⟩,s3⟩,s4⟩,s5⟩,s6⟩:=hs
    have nc:∀y∈sc.names,y.2≠.cell:=fun y hy z=>by have:=s4 y hy;rw [z] at this;cases this
    have LS:LamSc (zfs sc) sc:=⟨s1,s2,s3,nc,s5⟩;refine zoX (G:=G) T C gok hkk m1 k1 m2 k2 hfe hB hC htb LS s6 (fun y hy hf=>?_) (fun _=>rfl) (fun _ _ _ _=>rfl) (fun f' c' clos A outer s H E' hr=>?_)
    ·unfold zfs;exact ybd.mpr ⟨y,ycW.mpr ⟨hy,by rw [hf];rfl⟩,rfl⟩
    ·have g:Gx cl G j (zfB (CXE P wo) P wo K mg base (zfs sc) (q ++ "<lambda>") sc f' (.ref c') clos A outer s H E') sc.names (zfs sc) (fun _=>E') :=
      ⟨gok,hr,rfl,fun pins σ H1 s1 e s' I qq=>zsL pins σ H1 s1 e s' I qq,rfl,hkk,hP,hW,s6,fun x kd h=>⟨kd,h,.inl rfl⟩,fun x h=>h,(fun c h=>by rw [hc0] at h;cases h),fun x h=>absurd rfl (nc _ (yax h))⟩
     exact (zjP 40 _ _ _ _ g body o f h1).2.1
   ·cases h'
  ·cases h'
def zqR{P:Program}{wo:PySem.World}{K:PySem.W.Frag}{mg:Z6}{base:Heap}{cl:Cf}{G:Genv}{k:Nat}{x qual:Str}{st:Stmt}{f cd:Addr}{N ps:List Str}{own:Bool}{fs:Fs}{oc kV doc pm ct:Value}{od an:Option Addr}{osl:Array (Option Value)}
  (lk:K.lookup f=some ⟨oc,od,.func (PySem.W.fnOf x qual (zaL st) (zay st) (zab st) .none kV doc pm an (.ref cd) ct),osl⟩) (hcd:PySem.W.codeIn K (.ref cd) qual=true) (S:FnScope N ps (zab st)) (hG:GOk cl (G.withLam cd (qual ++ ".<locals>.")) P wo K mg base k)
  (hk:K=cl.K) (hP:P=cl.P) (hW:wo=cl.wo) (hd:zaA (G.withLam cd (qual ++ ".<locals>.")) own N st=some fs):FnOk P wo K mg base (CXE P wo) (k+1) f (PySem.W.fnOf x qual (zaL st) (zay st) (zab st) .none kV doc pm an (.ref cd) ct) ps (zfU cl ps.length own (zb4 N.length own fs)):=by
 refine zqS lk hcd S (fun vs H Q E h=>h.1) fun A outer s H vs Q E hr hsp=>?_
 refine ⟨tS cl (fun _=>E) own fs,?_,zj3 hsp⟩
 have g:Gd cl (G.withLam cd (qual ++ ".<locals>.")) k (zfA (CXE P wo) P wo K mg base N qual (zab st) f (.ref cd) A outer s H E) (zab st).names N (fun _=>E) true :=
  ⟨⟨hG,hr,rfl,fun pins σ H1 s1 e s' I q=>zp1 pins σ H1 s1 e s' I q,rfl,hk,hP,hW,S.nd,fun x kd h=>⟨kd,h,.inl rfl⟩,(fun x h=>h),(fun c h=>by cases h;exact ⟨rfl,rfl⟩),(fun x h=>rfl)⟩,fun _=>rfl,S.kind,rfl,fun _=>PassesOwn.leaving,fun _ C pins σ H1 s1 e h' vs I mk q=>ziJ C pins σ H1 s1 e h' vs I mk q,rfl,rfl⟩
 exact zhm (fun st f hst=>zeK 40 true _ _ g st f hst) hd
end S2
namespace M87
open PySem L2 S2 S2.L87
noncomputable def top(i:Nat):Stmt:=PySem.Challenge.pw_floorfits_k87_changes_refused.main.body.getD i (.Pass ⟨0,0,0,0⟩)
def T:Tab:=⟨[],["isinstance","int","bool","tuple","len","range","all","enumerate","set","ValueError"],["FloorError","NoPlace","NoTile","NoFill","Unlike","Nothing","NoText","NoName"],[("NoPlace","FloorError"),("NoTile","FloorError")],["NoPlace","NoTile"],[],[],["numbers"]⟩
noncomputable def F0:Fn3:=⟨"",[],[],[]⟩
noncomputable def F1:Fn3:=F0.fn "is_whole" ⟨1,false,zbX⟩
def d1:zaA (Gn T F0) false ["thing"] (top 10)=some zd6:=by rfl
theorem s1:FnScope ["thing"] ["thing"] (zab (top 10)):=⟨rfl,rfl,rfl,by decide +kernel,rfl,by decide +kernel,by decide +kernel⟩
noncomputable def F2:Fn3:=F1.fn "is_tuple_of" ⟨3,false,zbx⟩
def d2:zaA (Gn T F1) false ["thing","least","most"] (top 11)=some zcy:=by rfl
theorem s2:FnScope ["thing","least","most"] ["thing","least","most"] (zab (top 11)):=⟨rfl,rfl,rfl,by decide +kernel,rfl,by decide +kernel,by decide +kernel⟩
noncomputable def F3:Fn3:=F2.fn "has_number" ⟨2,false,zbN⟩
def d3:zaA (Gn T F2) false ["tiles","thing"] (top 12)=some zc5:=by rfl
theorem s3:FnScope ["tiles","thing"] ["tiles","thing"] (zab (top 12)):=⟨rfl,rfl,rfl,by decide +kernel,rfl,by decide +kernel,by decide +kernel⟩
noncomputable def F4:Fn3:=F3.fn "may_lie" ⟨2,false,ze7⟩
def d4:zaA (Gn T F3) false ["tiles","thing"] (top 13)=some zfv:=by rfl
theorem s4:FnScope ["tiles","thing"] ["tiles","thing"] (zab (top 13)):=⟨rfl,rfl,rfl,by decide +kernel,rfl,by decide +kernel,by decide +kernel⟩
noncomputable def F5:Fn3:=F4.fn "size_of" ⟨1,false,ze6⟩
def d5:zaA (Gn T F4) false ["floor","columns"] (top 14)=some zfu:=by rfl
theorem s5:FnScope ["floor","columns"] ["floor"] (zab (top 14)):=⟨rfl,rfl,rfl,by decide +kernel,rfl,by decide +kernel,by decide +kernel⟩
noncomputable def F6:Fn3:=F5.fn "number_at" ⟨2,false,zdi⟩
def d6:zaA (Gn T F5) false ["floor","place"] (top 15)=some zdz:=by rfl
theorem s6:FnScope ["floor","place"] ["floor","place"] (zab (top 15)):=⟨rfl,rfl,rfl,by decide +kernel,rfl,by decide +kernel,by decide +kernel⟩
noncomputable def F7:Fn3:=F6.fn "has_place" ⟨2,false,zdj⟩
def d7:zaA (Gn T F6) false ["floor","place","size"] (top 16)=some zdA:=by rfl
theorem s7:FnScope ["floor","place","size"] ["floor","place"] (zab (top 16)):=⟨rfl,rfl,rfl,by decide +kernel,rfl,by decide +kernel,by decide +kernel⟩
noncomputable def F8:Fn3:=F7.fn "refuse_outside" ⟨2,false,zbD⟩
def d8:zaA (Gn T F7) false ["floor","place"] (top 17)=some zbG:=by rfl
theorem s8:FnScope ["floor","place"] ["floor","place"] (zab (top 17)):=⟨rfl,rfl,rfl,by decide +kernel,rfl,by decide +kernel,by decide +kernel⟩
noncomputable def F9:Fn3:=F8.fn "tile_at" ⟨2,false,zdh⟩
def d9:zaA (Gn T F8) false ["floor","place"] (top 18)=some zft:=by rfl
theorem s9:FnScope ["floor","place"] ["floor","place"] (zab (top 18)):=⟨rfl,rfl,rfl,by decide +kernel,rfl,by decide +kernel,by decide +kernel⟩
noncomputable def F10:Fn3:=F9.fn "with_number" ⟨3,false,zbw⟩
def d10:zaA (Gn T F9) false ["floor","place","number","old","row"] (top 19)=some zcx:=by rfl
theorem s10:FnScope ["floor","place","number","old","row"] ["floor","place","number"] (zab (top 19)):=⟨rfl,rfl,rfl,by decide +kernel,rfl,by decide +kernel,by decide +kernel⟩
noncomputable def F11:Fn3:=F10.fn "exchanged" ⟨4,false,zbd⟩
def d11:zaA (Gn T F10) false ["tiles","floor","one","other","first","second"] (top 21)=some zdB:=by rfl
theorem s11:FnScope ["tiles","floor","one","other","first","second"] ["tiles","floor","one","other"] (zab (top 21)):=⟨rfl,rfl,rfl,by decide +kernel,rfl,by decide +kernel,by decide +kernel⟩
noncomputable def F12:Fn3:=F11.fn "is_order" ⟨2,false,zdZ⟩
def d12:zaA (Gn T F11) false ["tiles","thing"] (top 22)=some zd7:=by rfl
theorem s12:FnScope ["tiles","thing"] ["tiles","thing"] (zab (top 22)):=⟨rfl,rfl,rfl,by decide +kernel,rfl,by decide +kernel,by decide +kernel⟩
noncomputable def F13:Fn3:=F12.fn "refuse_no_order" ⟨2,false,za0⟩
def d13:zaA (Gn T F12) false ["tiles","order"] (top 23)=some zbs:=by rfl
theorem s13:FnScope ["tiles","order"] ["tiles","order"] (zab (top 23)):=⟨rfl,rfl,rfl,by decide +kernel,rfl,by decide +kernel,by decide +kernel⟩
noncomputable def F14:Fn3:=F13.fn "set_by" ⟨2,false,zcp⟩
def d14:zaA (Gn T F13) false ["tiles","order"] (top 24)=some zg8:=by rfl
theorem s14:FnScope ["tiles","order"] ["tiles","order"] (zab (top 24)):=⟨rfl,rfl,rfl,by decide +kernel,rfl,by decide +kernel,by decide +kernel⟩
noncomputable def F15:Fn3:=F14.fn "row_by" ⟨2,false,zgS⟩
def d15:zaA (Gn T F14) false ["row","numbers"] (top 25)=some zg9:=by rfl
theorem s15:FnScope ["row","numbers"] ["row","numbers"] (zab (top 25)):=⟨rfl,rfl,rfl,by decide +kernel,rfl,by decide +kernel,by decide +kernel⟩
noncomputable def F16:Fn3:=F15.fn "floor_by" ⟨3,false,zbo⟩
def d16:zaA (Gn T F15) false ["tiles","floor","order","numbers","new","old"] (top 26)=some zd8:=by rfl
theorem s16:FnScope ["tiles","floor","order","numbers","new","old"] ["tiles","floor","order"] (zab (top 26)):=⟨rfl,rfl,rfl,by decide +kernel,rfl,by decide +kernel,by decide +kernel⟩
noncomputable def F17:Fn3:=F16.fn "row_replaced" ⟨3,false,zb7⟩
def d17:zaA (Gn T F16) false ["row","old","new"] (top 27)=some zb9:=by rfl
theorem s17:FnScope ["row","old","new"] ["row","old","new"] (zab (top 27)):=⟨rfl,rfl,rfl,by decide +kernel,rfl,by decide +kernel,by decide +kernel⟩
noncomputable def F18:Fn3:=F17.fn "replaced" ⟨4,false,zaG⟩
def d18:zaA (Gn T F17) false ["tiles","floor","old","new"] (top 28)=some zd5:=by rfl
theorem s18:FnScope ["tiles","floor","old","new"] ["tiles","floor","old","new"] (zab (top 28)):=⟨rfl,rfl,rfl,by decide +kernel,rfl,by decide +kernel,by decide +kernel⟩
noncomputable def F19:Fn3:=F18.fn "_law_cell" ⟨2,false,za1⟩
def d19:zaA (Gn T F18) false ["_law_script","_law_k"] (top 30)=some zbf:=by rfl
theorem s19:FnScope ["_law_script","_law_k"] ["_law_script","_law_k"] (zab (top 30)):=⟨rfl,rfl,rfl,by decide +kernel,rfl,by decide +kernel,by decide +kernel⟩
noncomputable def F20:Fn3:=F19.fn "_law_pick" ⟨3,false,zaq⟩
def d20:zaA (Gn T F19) false ["_law_script","_law_k","_law_many","_law_drawn"] (top 31)=some zck:=by rfl
theorem s20:FnScope ["_law_script","_law_k","_law_many","_law_drawn"] ["_law_script","_law_k","_law_many"] (zab (top 31)):=⟨rfl,rfl,rfl,by decide +kernel,rfl,by decide +kernel,by decide +kernel⟩
def d21(c:Addr):zaA ((Gn T F20).withLam c (("law":Str) ++ ".<locals>.")) false ["_law_script","_law_odd","_law_k","_law_told_here","_law_floor","_law_number","_law_order","_law_place","_law_tiles"] (top 34)=some zjF:=by rfl
theorem s21:FnScope ["_law_script","_law_odd","_law_k","_law_told_here","_law_floor","_law_number","_law_order","_law_place","_law_tiles"] ["_law_script"] (zab (top 34)):=⟨rfl,rfl,rfl,by decide +kernel,rfl,by decide +kernel,by decide +kernel⟩
def sT:FnScope ["_law_deed","e"] ["_law_deed"] (zab (top 33)):=⟨rfl,rfl,rfl,by decide +kernel,rfl,by decide +kernel,by decide +kernel⟩
def sC:FnScope ["_law_kept","_law_kinds"] ["_law_kept"] (zab (top 32)):=⟨rfl,rfl,rfl,by decide +kernel,rfl,by decide +kernel,by decide +kernel⟩
def gC:∀x∈((("isinstance":Str)::("ValueError":Str)::zcl)),(zab (top 32)).names.lookup x=some .globalImplicit:=by decide +kernel
def xC:∀x∈zcl,(Gn T F20).exc x=true:=by decide +kernel
def tF{K:PySem.W.Frag}{f:Addr}{oc kV dc pm cd ct:Value}{od an:Option Addr}{sl:Array (Option Value)}(l:K.lookup f=some ⟨oc,od,.func (PySem.W.fnOf "_law_told" "_law_told" (zaL (top 33)) (zay (top 33)) (zab (top 33)) .none kV dc pm an cd ct),sl⟩)(c:PySem.W.codeIn K cd "_law_told" = true)(k:PySem.W.keepIn K (.ref f)=true):ToldFn K (top 33) f (PySem.W.fnOf "_law_told" "_law_told" (zaL (top 33)) (zay (top 33)) (zab (top 33)) .none kV dc pm an cd ct) :=
 ⟨zjD (st:=top 33) l c k,sT,by rfl,by rfl,by rfl,by rfl,⟨_,_,_,_,_,_,_,_,_,_,rfl⟩,fun us hl=>match us,hl with | [_],_=>rfl⟩
def cF{cl:Cf}{K:PySem.W.Frag}{f:Addr}{oc kV dc pm cd ct:Value}{od an:Option Addr}{sl:Array (Option Value)}(l:K.lookup f=some ⟨oc,od,.func (PySem.W.fnOf "_law_class" "_law_class" (zaL (top 32)) (zay (top 32)) (zab (top 32)) .none kV dc pm an cd ct),sl⟩)(c:PySem.W.codeIn K cd "_law_class" = true)(k:PySem.W.keepIn K (.ref f)=true):ClsFn cl (Gn T F20) K (top 32) f (PySem.W.fnOf "_law_class" "_law_class" (zaL (top 32)) (zay (top 32)) (zab (top 32)) .none kV dc pm an cd ct) :=
 ⟨zjD (st:=top 32) l c k,sC,by rfl,by rfl,gC,by rfl,by rfl,xC,fun k Y E c=>c.ok (by rfl) (by rfl),fun us hl=>match us,hl with | [_],_=>rfl⟩
def gm{K:PySem.W.Frag}{x:Str}{st:Stmt}{f:Addr}{oc kV dc pm cd ct:Value}{od an:Option Addr}{sl:Array (Option Value)}(a:PySem.W.nsIn K mainGlobals x=some (some (.ref f)))(l:K.lookup f=some ⟨oc,od,.func (PySem.W.fnOf x x (zaL st) (zay st) (zab st) .none kV dc pm an cd ct),sl⟩)(c:PySem.W.codeIn K cd x=true)(k:PySem.W.keepIn K (.ref f)=true)(i:PySem.W.isFn K (.ref f)=true):GFn K x st:=⟨f,a,oc,od,kV,dc,pm,an,cd,ct,sl,l,c,k,i⟩
def mm{K:PySem.W.Frag}{x q:Str}{st:Stmt}{f:Addr}{oc kV dc pm cd ct:Value}{od an:Option Addr}{sl:Array (Option Value)}{C:Addr}(a:PySem.W.findIn K (.ref C) x=some (some (.ref f)))(l:K.lookup f=some ⟨oc,od,.func (PySem.W.fnOf x q (zaL st) (zay st) (zab st) .none kV dc pm an cd ct),sl⟩)(c:PySem.W.codeIn K cd q=true)(k:PySem.W.keepIn K (.ref f)=true)(i:PySem.W.isFn K (.ref f)=true):MFn K C x q st:=⟨f,a,oc,od,kV,dc,pm,an,cd,ct,sl,l,c,k,i⟩
def all_mk{l:PySem.W.OpenLaw}{w:PySem.World}{K:PySem.W.Frag}{h:Heap}{mg:Z6}{fa f21 cdA Pt:Addr}(X:K.In h)(G:h.Ns mainGlobals mg)(hfa:mg "law" = some (.ref fa))
  {od21 an21:Option Addr} {sl21:Array (Option Value)} {oc21 kV21 dc21 pm21 ct21:Value}
  (a21:PySem.W.nsIn K mainGlobals "law" = some (some (.ref f21)))
  (l21:K.lookup f21=some ⟨oc21,od21,.func (PySem.W.fnOf "law" "law" (zaL (top 34)) (zay (top 34)) (zab (top 34)) .none kV21 dc21 pm21 an21 (.ref cdA) ct21),sl21⟩) (c21:PySem.W.codeIn K (.ref cdA) "law" = true) (k21:PySem.W.keepIn K (.ref f21)=true)
  (z1:PySem.W.nsIn K mainGlobals "isinstance" = some none)
  (z2:PySem.W.nsIn K mainGlobals "int" = some none)
  (z3:PySem.W.nsIn K mainGlobals "bool" = some none)
  (z4:PySem.W.nsIn K mainGlobals "tuple" = some none)
  (z5:PySem.W.nsIn K mainGlobals "len" = some none)
  (z6:PySem.W.nsIn K mainGlobals "range" = some none)
  (z7:PySem.W.nsIn K mainGlobals "all" = some none)
  (z8:PySem.W.nsIn K mainGlobals "enumerate" = some none)
  (z9:PySem.W.nsIn K mainGlobals "set" = some none)
  (z10:PySem.W.nsIn K mainGlobals "ValueError" = some none)
  {e0 e1 e2 e3 e4 e5 e6 e7:Addr}
  (n0:PySem.W.nsIn K mainGlobals "FloorError" = some (some (.ref e0))) (x0:PySem.W.excIn K e0 bmV "ValueError.__new__" = true)
  (n1:PySem.W.nsIn K mainGlobals "NoPlace" = some (some (.ref e1))) (x1:PySem.W.excIn K e1 bmV "ValueError.__new__" = true)
  (n2:PySem.W.nsIn K mainGlobals "NoTile" = some (some (.ref e2))) (x2:PySem.W.excIn K e2 bmV "ValueError.__new__" = true)
  (n3:PySem.W.nsIn K mainGlobals "NoFill" = some (some (.ref e3))) (x3:PySem.W.excIn K e3 bmV "ValueError.__new__" = true)
  (n4:PySem.W.nsIn K mainGlobals "Unlike" = some (some (.ref e4))) (x4:PySem.W.excIn K e4 bmV "ValueError.__new__" = true)
  (n5:PySem.W.nsIn K mainGlobals "Nothing" = some (some (.ref e5))) (x5:PySem.W.excIn K e5 bmV "ValueError.__new__" = true)
  (n6:PySem.W.nsIn K mainGlobals "NoText" = some (some (.ref e6))) (x6:PySem.W.excIn K e6 bmV "ValueError.__new__" = true)
  (n7:PySem.W.nsIn K mainGlobals "NoName" = some (some (.ref e7))) (x7:PySem.W.excIn K e7 bmV "ValueError.__new__" = true)
  {el1:Value} {ed1:Option Addr} {ec1:ClassData} {es1:Array (Option Value)} (lk1:K.lookup e1=some ⟨el1,ed1,.cls ec1,es1⟩) (mr1:ec1.mro=.ref e1::.ref e0::bmV)
  (ga1:PySem.W.findIn K (.ref e1) "__getattribute__" = some (some (.builtin "BaseException.__getattribute__"))) (gt1:PySem.W.findIn K (.ref e1) "__getattr__" = some none) (cc1:PySem.W.findIn K (.ref e1) "__class__" = some (some (.builtin "object.__class__")))
  {el2:Value} {ed2:Option Addr} {ec2:ClassData} {es2:Array (Option Value)} (lk2:K.lookup e2=some ⟨el2,ed2,.cls ec2,es2⟩) (mr2:ec2.mro=.ref e2::.ref e0::bmV)
  (ga2:PySem.W.findIn K (.ref e2) "__getattribute__" = some (some (.builtin "BaseException.__getattribute__"))) (gt2:PySem.W.findIn K (.ref e2) "__getattr__" = some none) (cc2:PySem.W.findIn K (.ref e2) "__class__" = some (some (.builtin "object.__class__")))
  (nd:[e0,e1,e2,e3,e4,e5,e6,e7].Nodup)
  (p1:GFn K "is_whole" (top 10)) (p2:GFn K "is_tuple_of" (top 11)) (p3:GFn K "has_number" (top 12)) (p4:GFn K "may_lie" (top 13)) (p5:GFn K "size_of" (top 14)) (p6:GFn K "number_at" (top 15)) (p7:GFn K "has_place" (top 16)) (p8:GFn K "refuse_outside" (top 17)) (p9:GFn K "tile_at" (top 18)) (p10:GFn K "with_number" (top 19)) (p11:GFn K "exchanged" (top 21)) (p12:GFn K "is_order" (top 22)) (p13:GFn K "refuse_no_order" (top 23)) (p14:GFn K "set_by" (top 24)) (p15:GFn K "row_by" (top 25)) (p16:GFn K "floor_by" (top 26)) (p17:GFn K "row_replaced" (top 27)) (p18:GFn K "replaced" (top 28)) (p19:GFn K "_law_cell" (top 30)) (p20:GFn K "_law_pick" (top 31)) (pT:GFn K "_law_told" (top 33)) (pC:GFn K "_law_class" (top 32))
  : ∃fd:FuncData,(∀(s:Shared) (v:Value),BindsTo s fd ⟨[v],[]⟩ [("_law_script",v)])/\∀base:Heap,K.In base->base.Ns mainGlobals mg->zlV mg base->(∀q∈[(cdA,Pt)],PySem.W.CodeHd base q.1 q.2)->FnOk l.prog w K mg base (CXE l.prog w) 23 fa fd ["_law_script"] (S2.zgI K [(cdA,Pt)]):=by
 have e:=hfa.symm.trans (ybi X G a21);cases e;refine ⟨PySem.W.fnOf "law" "law" (zaL (top 34)) (zay (top 34)) (zab (top 34)) .none kV21 dc21 pm21 an21 (.ref cdA) ct21,fun s v=>.of_eq rfl,fun base _ _ hB hCd=>?_⟩
 let cl:Cf:=⟨fun x=>(([("FloorError",e0),("NoPlace",e1),("NoTile",e2),("NoFill",e3),("Unlike",e4),("Nothing",e5),("NoText",e6),("NoName",e7)]:List (Str×Addr)).lookup x).getD 0,K,l.prog,w,fun a=>if a=Pt then some ((("law":Str) ++ ".<locals>.") ++ "<lambda>") else none⟩
 have g0:GOk cl (Gn T F0) l.prog w K mg base 0:=zxc (cl:=cl) zc4 (zai (ya3 X G z1) (zai (ya3 X G z2) (zai (ya3 X G z3) (zai (ya3 X G z4) (zai (ya3 X G z5) (zai (ya3 X G z6) (zai (ya3 X G z7) (zai (ya3 X G z8) (zai (ya3 X G z9) (zai (ya3 X G z10) zc4)))))))))) (zai ⟨ybi X G n0,x0⟩ (zai ⟨ybi X G n1,x1⟩ (zai ⟨ybi X G n2,x2⟩ (zai ⟨ybi X G n3,x3⟩ (zai ⟨ybi X G n4,x4⟩ (zai ⟨ybi X G n5,x5⟩ (zai ⟨ybi X G n6,x6⟩ (zai ⟨ybi X G n7,x7⟩ zc4)))))))) (zai ⟨⟨_,_,x1⟩,_,_,_,_,lk1,zja mr1⟩ (zai ⟨⟨_,_,x2⟩,_,_,_,_,lk2,zja mr2⟩ zc4)) (zai (zmq (K:=K) (c:="NoPlace") (cl:=cl) lk1 mr1 rfl ga1 gt1 cc1 (zai x0 (zai x1 (zai x2 (zai x3 (zai x4 (zai x5 (zai x6 (zai x7 zc4)))))))) (fun C hC=>⟨zho (L:=[("FloorError",e0),("NoPlace",e1),("NoTile",e2),("NoFill",e3),("Unlike",e4),("Nothing",e5),("NoText",e6),("NoName",e7)]) (c:="NoPlace") nd hC (by simp),zho (L:=[("FloorError",e0),("NoPlace",e1),("NoTile",e2),("NoFill",e3),("Unlike",e4),("Nothing",e5),("NoText",e6),("NoName",e7)]) (c:="FloorError") nd hC (by simp)⟩)) (zai (zmq (K:=K) (c:="NoTile") (cl:=cl) lk2 mr2 rfl ga2 gt2 cc2 (zai x0 (zai x1 (zai x2 (zai x3 (zai x4 (zai x5 (zai x6 (zai x7 zc4)))))))) (fun C hC=>⟨zho (L:=[("FloorError",e0),("NoPlace",e1),("NoTile",e2),("NoFill",e3),("Unlike",e4),("Nothing",e5),("NoText",e6),("NoName",e7)]) (c:="NoTile") nd hC (by simp),zho (L:=[("FloorError",e0),("NoPlace",e1),("NoTile",e2),("NoFill",e3),("Unlike",e4),("Nothing",e5),("NoText",e6),("NoName",e7)]) (c:="FloorError") nd hC (by simp)⟩)) zc4)) zc4;have g1:GOk cl (Gn T F1) l.prog w K mg base 1:=g0.addG X G p1 s1 rfl rfl rfl (fun _ _ _ _ _ _=>bb1 fun _=>rfl) d1;have g2:GOk cl (Gn T F2) l.prog w K mg base 2:=g1.addG X G p2 s2 rfl rfl rfl (fun _ _ _ _ _ _=>bb3 fun _ _ _=>rfl) d2;have g3:GOk cl (Gn T F3) l.prog w K mg base 3:=g2.addG X G p3 s3 rfl rfl rfl (fun _ _ _ _ _ _=>bb2 fun _ _=>rfl) d3;have g4:GOk cl (Gn T F4) l.prog w K mg base 4:=g3.addG X G p4 s4 rfl rfl rfl (fun _ _ _ _ _ _=>bb2 fun _ _=>rfl) d4;have g5:GOk cl (Gn T F5) l.prog w K mg base 5:=g4.addG X G p5 s5 rfl rfl rfl (fun _ _ _ _ _ _=>bb1 fun _=>rfl) d5;have g6:GOk cl (Gn T F6) l.prog w K mg base 6:=g5.addG X G p6 s6 rfl rfl rfl (fun _ _ _ _ _ _=>bb2 fun _ _=>rfl) d6;have g7:GOk cl (Gn T F7) l.prog w K mg base 7:=g6.addG X G p7 s7 rfl rfl rfl (fun _ _ _ _ _ _=>bb2 fun _ _=>rfl) d7;have g8:GOk cl (Gn T F8) l.prog w K mg base 8:=g7.addG X G p8 s8 rfl rfl rfl (fun _ _ _ _ _ _=>bb2 fun _ _=>rfl) d8;have g9:GOk cl (Gn T F9) l.prog w K mg base 9:=g8.addG X G p9 s9 rfl rfl rfl (fun _ _ _ _ _ _=>bb2 fun _ _=>rfl) d9;have g10:GOk cl (Gn T F10) l.prog w K mg base 10:=g9.addG X G p10 s10 rfl rfl rfl (fun _ _ _ _ _ _=>bb3 fun _ _ _=>rfl) d10;have g11:GOk cl (Gn T F11) l.prog w K mg base 11:=g10.addG X G p11 s11 rfl rfl rfl (fun _ _ _ _ _ _=>bb4 fun _ _ _ _=>rfl) d11;have g12:GOk cl (Gn T F12) l.prog w K mg base 12:=g11.addG X G p12 s12 rfl rfl rfl (fun _ _ _ _ _ _=>bb2 fun _ _=>rfl) d12;have g13:GOk cl (Gn T F13) l.prog w K mg base 13:=g12.addG X G p13 s13 rfl rfl rfl (fun _ _ _ _ _ _=>bb2 fun _ _=>rfl) d13;have g14:GOk cl (Gn T F14) l.prog w K mg base 14:=g13.addG X G p14 s14 rfl rfl rfl (fun _ _ _ _ _ _=>bb2 fun _ _=>rfl) d14;have g15:GOk cl (Gn T F15) l.prog w K mg base 15:=g14.addG X G p15 s15 rfl rfl rfl (fun _ _ _ _ _ _=>bb2 fun _ _=>rfl) d15;have g16:GOk cl (Gn T F16) l.prog w K mg base 16:=g15.addG X G p16 s16 rfl rfl rfl (fun _ _ _ _ _ _=>bb3 fun _ _ _=>rfl) d16;have g17:GOk cl (Gn T F17) l.prog w K mg base 17:=g16.addG X G p17 s17 rfl rfl rfl (fun _ _ _ _ _ _=>bb3 fun _ _ _=>rfl) d17;have g18:GOk cl (Gn T F18) l.prog w K mg base 18:=g17.addG X G p18 s18 rfl rfl rfl (fun _ _ _ _ _ _=>bb4 fun _ _ _ _=>rfl) d18;have g19:GOk cl (Gn T F19) l.prog w K mg base 19:=g18.addG X G p19 s19 rfl rfl rfl (fun _ _ _ _ _ _=>bb2 fun _ _=>rfl) d19;have g20:GOk cl (Gn T F20) l.prog w K mg base 20:=g19.addG X G p20 s20 rfl rfl rfl (fun _ _ _ _ _ _=>bb3 fun _ _ _=>rfl) d20;obtain ⟨fT,aT,_,_,_,_,_,_,_,_,_,lT,cT,kT,_⟩:=pT;obtain ⟨fC,aC,_,_,_,_,_,_,_,_,_,lC,cC,kC,_⟩:=pC;have gL:=g20.lamUp (cd:=cdA) (Pt:=Pt) (q:=(("law":Str) ++ ".<locals>.")) rfl (tF lT cT kT) (cF (cl:=cl) lC cC kC) rfl rfl rfl (ybi X G aT) kT (ybi X G aC) kC rfl hB (hCd (cdA,Pt) (.head _)) (if_pos rfl);have G21:=zqR (cl:=cl) (wo:=w) (P:=l.prog) l21 c21 s21 gL rfl rfl rfl (d21 cdA);exact G21.imp (znY (cl:=cl) (fun P q h=>by have hh:(if P=Pt then some ((("law":Str) ++ ".<locals>.") ++ "<lambda>") else none)=some q:=h;split at hh;(· rename_i e;rw [e];exact .head _);(· cases hh)) (fun l hl=>⟨[],zld l hl⟩))
def walk{l:PySem.W.OpenLaw}{q:Program}{loose:List Str}{XP:(Str->Option Value)->Heap->Prop}{YP:PySem.World->Heap->Prop}{d:DefRec}{K:Params->PySem.W.Frag}{cdA Pt:Addr}(hn:l.most=some 63)(hdf:d.params.defaults=[])
  (hY:∀(w:PySem.World) (h:Heap),YP w h->(K w.params).In h) (hnt:∀w:PySem.World,PySem.W.noTabs (K w.params)=true)
  (hT:∀(w:PySem.World) (mg mb:Z6) (mean:ExcName->Option Value) (h:Heap),(K w.params).In h->PyProof.Rows.Top q (PySem.W.looseW q loose) mean mg mb h->PySem.W.TabsAt [(cdA,Pt)] h)
  (F:∀(w:PySem.World) (mg:Z6) (fa:Addr) (h:Heap),(K w.params).In h->h.Ns mainGlobals mg->mg d.name=some (.ref fa) →
   ∃fd:FuncData,(∀(s:Shared) (u:Value),BindsTo s fd ⟨[u],[]⟩ [("_law_script",u)])/\∀base:Heap,(K w.params).In base->base.Ns mainGlobals mg->zlV mg base->(∀q∈[(cdA,Pt)],PySem.W.CodeHd base q.1 q.2)->FnOk l.prog w (K w.params) mg base (CXE l.prog w) 23 fa fd ["_law_script"] (S2.zgI (K w.params) [(cdA,Pt)])) :
  PySem.W.WalkO q loose XP YP l.row.toRowW d [] (fun f vs=>PySem.call f vs) :=
 L2.zki (n:=63) (k:=23) (x:="_law_script") (tabs:=[(cdA,Pt)]) (CX:=fun w=>CXE l.prog w) (sp:=fun w=>S2.zgI (K w.params) [(cdA,Pt)]) hn (by decide) hdf ⟨rfl,by decide,by decide⟩ hY hnt hT F (fun _ _ a ns hl hO hTb hne hS=>⟨a,ns,rfl,hl,hO,hTb,hne,hS,fun _=>rfl⟩) (by rintro _ _ _ _ _ ⟨_,_,_,_,_,_,_,_,_,_,_,_,_,_,z⟩;exact z)
end M87
namespace PySem.W.Fast
noncomputable def tw546238050086816790:=0
noncomputable def tw2255260352179264790:=0
noncomputable def tw13287694650755930147:=0
noncomputable def tw10964173159821017380:=0
noncomputable def tw11036774176813025211:=0
noncomputable def tw15602560036561795810:=0
noncomputable def tw5515177717248453607:=0
noncomputable def tw975922887390752673:=0
noncomputable def tw3588912812978998767:=0
noncomputable def tw10724181674653847608:=0
noncomputable def tw11633072082028677442:=0
noncomputable def tw8887264370147818794:=0
noncomputable def tw12424133800317381096:=0
noncomputable def tw6006688807660219517:=0
noncomputable def tw7881904583760122282:=0
noncomputable def tw10487136164098543321:=0
noncomputable def tw6375924508828264106:=0
noncomputable def tw7628753430842771358:=0
noncomputable def tw14557966058529684744:=0
noncomputable def tw11769812248923368797:=0
noncomputable def tw716625132210200452:=0
noncomputable def tw50967237914161085:=0
noncomputable def tw4202961552120975945:=0
noncomputable def tw15130174700879471026:=0
noncomputable def tw7853005694083301932:=0
noncomputable def tw8337301203412297120:=0
noncomputable def tw17055539286297400599:=0
noncomputable def tw1830828481899900416:=0
noncomputable def tw7169741194830999524:=0
noncomputable def tw9143231534778275251:=0
noncomputable def tw2950906915027036436:=0
noncomputable def tw13088419725260085897:=0
noncomputable def tw6882831660228874413:=0
noncomputable def tw13180442422800011159:=0
noncomputable def tw13285181669806551939:=0
noncomputable def tw14037073698338160394:=0
noncomputable def tw2404486662893495380:=0
noncomputable def tw74888062754630525:=0
noncomputable def tw11544892478212210309:=0
noncomputable def tw5754513219749644061:=0
noncomputable def tw322900171089216700:=0
noncomputable def tw12541512463872587740:=0
noncomputable def tw7067093895044426634:=0
noncomputable def tw3055741227448080029:=0
noncomputable def tw5194853902131651883:=0
noncomputable def tw6513562416428657931:=0
noncomputable def tw4220592470053636916:=0
noncomputable def tw8490817679913739584:=0
noncomputable def tw17531182576482509850:=0
noncomputable def tw5994846301502009074:=0
noncomputable def tw16174981370685136937:=0
noncomputable def tw140229777862940972:=0
noncomputable def tw687013279738044772:=0
noncomputable def tw6527669634152884887:=0
noncomputable def tw7940719902223985428:=0
noncomputable def tw12703677037536246029:=0
noncomputable def tw12056415090557658955:=0
noncomputable def tw17956398505482028321:=0
noncomputable def tw2893916337707854333:=0
noncomputable def tw5053311785144740081:=0
noncomputable def tw10921332409317180959:=0
noncomputable def tw16018392545666006711:=0
noncomputable def tw8606621695525900770:=0
noncomputable def tw16914616272630645901:=0
noncomputable def tw14571886980562968215:=0
noncomputable def tw8556604009834341185:=0
noncomputable def tw10818478703509872952:=0
noncomputable def tw8196130906704800565:=0
noncomputable def tw7312613743842677365:=0
noncomputable def tw6139042038092862643:=0
noncomputable def tw11989041200031631583:=0
noncomputable def tw12604277481725608822:=0
noncomputable def tw953237182890413763:=0
noncomputable def tw4684402244813182530:=0
noncomputable def tw3265666201964469080:=0
noncomputable def tw8195758217518390825:=0
noncomputable def tw5764867813232560608:=0
noncomputable def tw9360217501407844710:=0
noncomputable def tw13632912442036303058:=0
noncomputable def tw12295973999964087086:=0
noncomputable def tw11479717318081305811:=0
noncomputable def tw9940521793191774204:=0
noncomputable def tw9515767219125278362:=0
noncomputable def tw280798908104826909:=0
noncomputable def tw18192007580178690909:=0
noncomputable def tw13970033684630922714:=0
noncomputable def tw13038500728785849382:=0
noncomputable def tw7299001903133608779:=0
noncomputable def tw4409715995482394787:=0
noncomputable def tw4162604888817100307:=0
noncomputable def tw3483284926905071409:=0
noncomputable def tw1039106831682768157:=0
noncomputable def tw12227262168725880:=0
noncomputable def tw6468301517882458671:=0
noncomputable def tw8894586130432270495:=0
noncomputable def tw5358450401990296139:=0
noncomputable def tw17369416814896628743:=0
noncomputable def tw16494369424913599419:=0
noncomputable def tw15708021155732047834:=0
noncomputable def tw1233050732123413851:=0
noncomputable def tw10952811920261097995:=0
noncomputable def tw2341732501330675014:=0
noncomputable def tw8963570640232960635:=0
noncomputable def tw3761413848852602733:=0
noncomputable def tw12738291471982296153:=0
noncomputable def tw2888107196729016824:=0
noncomputable def tw1723452095494442839:=0
noncomputable def tw6089382754832904600:=0
noncomputable def tw6402210805788478678:=0
noncomputable def tw15795424659235615915:=0
noncomputable def tw11856593068580145685:=0
noncomputable def tw12408578958595040716:=0
noncomputable def tw11533752313747501434:=0
noncomputable def tw11452993738208076107:=0
noncomputable def tw5300131149139052090:=0
noncomputable def tw9067457460136898423:=0
noncomputable def tw14001198286760035958:=0
noncomputable def tw1281444037169805553:=0
noncomputable def tw5619886545385582384:=0
noncomputable def tw4340917602472225147:=0
noncomputable def tw3663528271986507701:=0
noncomputable def tw548446213592732062:=0
noncomputable def tw10497887708941746613:=0
noncomputable def tw8258397535982399777:=0
noncomputable def tw16715875858683796650:=0
noncomputable def tw13296789048805682002:=0
noncomputable def tw9452704360618196241:=0
noncomputable def tw13821252116770922738:=0
noncomputable def tw11311064375854764316:=0
noncomputable def tw10292228480096568541:=0
noncomputable def tw3225464232049264442:=0
noncomputable def tw4526069910544147660:=0
noncomputable def tw1403543146283457442:=0
noncomputable def tw4613364119600522601:=0
noncomputable def tw16499927882867927401:=0
noncomputable def tw15064124139359276230:=0
noncomputable def tw17731648559395403006:=0
noncomputable def tw5878288557672756729:=0
noncomputable def tw15874804212946956691:=0
noncomputable def tw1356386724927280912:=0
noncomputable def tw6432917086952415117:=0
noncomputable def tw12018720535029039610:=0
noncomputable def tw415356000421070708:=0
noncomputable def tw311478573534132501:=0
noncomputable def tw5786360552721819884:=0
noncomputable def tw14357403111397979742:=0
noncomputable def tw4007118811075354099:=0
noncomputable def tw3589997758241801085:=0
noncomputable def tw6999448919547269094:=0
noncomputable def tw967806747078287429:=0
noncomputable def tw11400475483593385367:=0
noncomputable def tw1853352254118156063:=0
noncomputable def tw4192565978310053430:=0
noncomputable def tw8395614131474982926:=0
noncomputable def tw9834864303085071402:=0
noncomputable def tw463475950886926371:=0
noncomputable def tw2590834224906593030:=0
noncomputable def tw15861218916705238693:=0
noncomputable def tw11485901956972174680:=0
noncomputable def tw10672186290421369355:=0
noncomputable def tw8443213729422826731:=0
noncomputable def tw7686712423269095539:=0
noncomputable def tw5242869131262494410:=0
noncomputable def tw4812983436767316976:=0
noncomputable def tw3064536926121789102:=0
noncomputable def tw1777826198330453301:=0
noncomputable def tw12551600944444622212:=0
noncomputable def tw15324566813871313672:=0
noncomputable def tw15106430072336815062:=0
noncomputable def tw14636952655630975147:=0
noncomputable def tw7365014101352333968:=0
noncomputable def tw791110163764008726:=0
noncomputable def tw15472787162322486028:=0
noncomputable def tw148634521968696237:=0
noncomputable def tw17960276743520224592:=0
noncomputable def tw6523996106369549922:=0
noncomputable def tw5712360012706211556:=0
noncomputable def tw17877452390582718658:=0
noncomputable def tw17486444043337635184:=0
noncomputable def tw17063707350301276264:=0
noncomputable def tw16681244448972051912:=0
noncomputable def tw13668426882157104977:=0
noncomputable def tw10346654711855405019:=0
noncomputable def tw7369349197717513428:=0
noncomputable def tw664396137399307871:=0
noncomputable def tw4948728359745713357:=0
noncomputable def tw4390943055610588566:=0
noncomputable def tw425320523471050594:=0
noncomputable def tw3324389288607702723:=0
noncomputable def tw3244602408909869660:=0
noncomputable def tw14584057754808816779:=0
noncomputable def tw2060964008401036238:=0
noncomputable def tw6463299004155725487:=0
noncomputable def tw6419781253034258146:=0
noncomputable def tw16836986894268944750:=0
noncomputable def tw13046886045571165171:=0
noncomputable def tw12331047644581872525:=0
noncomputable def tw12078308821676662339:=0
noncomputable def tw11745966461325011269:=0
noncomputable def tw9693316619542343652:=0
noncomputable def tw3135100685799646917:=0
noncomputable def tw17853495811121917610:=0
noncomputable def tw16367261230542310760:=0
noncomputable def tw15802576866765987032:=0
noncomputable def tw1326870839550811347:=0
noncomputable def tw12745548608814186936:=0
noncomputable def tw1188527761547973598:=0
noncomputable def tw9898855306084511448:=0
noncomputable def tw9885937211674950814:=0
noncomputable def tw9878380507860733543:=0
noncomputable def tw9732618711268111089:=0
noncomputable def tw9263157997332150793:=0
noncomputable def tw91721288282536235:=0
noncomputable def tw8619190683423635706:=0
noncomputable def tw8414250440286078760:=0
noncomputable def tw8268073555308058534:=0
noncomputable def tw8228300986312400034:=0
noncomputable def tw7857386557108158942:=0
noncomputable def tw7209526953888868262:=0
noncomputable def tw706906825456163713:=0
noncomputable def tw676431163890600393:=0
noncomputable def tw6425179498258941602:=0
noncomputable def tw6150252993124292240:=0
noncomputable def tw6042177494636998420:=0
noncomputable def tw6008281747342119069:=0
noncomputable def tw5853264001608228757:=0
noncomputable def tw5807861951455778403:=0
noncomputable def tw5585578314412897393:=0
noncomputable def tw5472000049696572843:=0
noncomputable def tw425807000677094219:=0
noncomputable def tw3982010862926366661:=0
noncomputable def tw3969412272782054096:=0
noncomputable def tw3967296049774150828:=0
noncomputable def tw3810971125680317784:=0
noncomputable def tw3529859477216125191:=0
noncomputable def tw3457965990886867612:=0
noncomputable def tw243378727764138574:=0
noncomputable def tw2288029744382932563:=0
noncomputable def tw2165350152838351613:=0
noncomputable def tw1902288009594707540:=0
noncomputable def tw18333643665422623130:=0
noncomputable def tw18212876672852649456:=0
noncomputable def tw18122801478851031249:=0
noncomputable def tw17623268514147178327:=0
noncomputable def tw17034725709028353351:=0
noncomputable def tw16808865385881168185:=0
noncomputable def tw1679961943064734903:=0
noncomputable def tw16380428047469564844:=0
noncomputable def tw15914995953375542639:=0
noncomputable def tw15322424162181137318:=0
noncomputable def tw14543532385440931715:=0
noncomputable def tw14001453483930801072:=0
noncomputable def tw13761401833647471223:=0
noncomputable def tw1359621849768306635:=0
noncomputable def tw1357121281200382122:=0
noncomputable def tw13567656335190662751:=0
noncomputable def tw13458447604206022775:=0
noncomputable def tw13034532741652997706:=0
noncomputable def tw12905453248219088963:=0
noncomputable def tw12456224231124064861:=0
noncomputable def tw1169978093335342578:=0
noncomputable def tw1099900820630722823:=0
noncomputable def tw10774940936777715350:=0
end PySem.W.Fast
open PySem PySem.W PyProof.Rows
set_option maxRecDepth 100000 in
set_option maxHeartbeats 0 in
theorem PySem.Challenge.cw_floorfits_k87_changes_refused_holds : PySem.Challenge.rw_floorfits_k87_changes_refused.Holds := by
 w_on;o_law;k_head;(case hw=>w_witness2)
 k_fill
 refine M87.walk (l:=PySem.Challenge.rw_floorfits_k87_changes_refused) (cdA:=259) (Pt:=255) rfl rfl (fun w h Y=>PySem.W.km_in_of Y) (fun w=>by kernel_rfl) (fun w mg mb mean h X T=>List.forall_mem_cons.mpr ⟨PySem.W.tab_of (x:=PySem.Str.ofString "law") (c:=259) (P:=255) T X rfl (by kernel_rfl),fun _ h=>nomatch h⟩) ?F
 case F =>
  intro w mg fa h KX G hmg;refine' M87.all_mk KX G hmg ?a21 ?l21 ?c21 ?k21 ?z1 ?z2 ?z3 ?z4 ?z5 ?z6 ?z7 ?z8 ?z9 ?z10 ?n0 ?x0 ?n1 ?x1 ?n2 ?x2 ?n3 ?x3 ?n4 ?x4 ?n5 ?x5 ?n6 ?x6 ?n7 ?x7 ?lk1 ?mr1 ?ga1 ?gt1 ?cc1 ?lk2 ?mr2 ?ga2 ?gt2 ?cc2 ?nd ?_ ?_ ?_ ?_ ?_ ?_ ?_ ?_ ?_ ?_ ?_ ?_ ?_ ?_ ?_ ?_ ?_ ?_ ?_ ?_ ?_ ?_
  (case a21=>k_is);(case l21=>k_is);(case c21=>k_is);(case k21=>k_is)
  (case z1=>k_is);(case z2=>k_is);(case z3=>k_is);(case z4=>k_is)
  (case z5=>k_is);(case z6=>k_is);(case z7=>k_is);(case z8=>k_is)
  (case z9=>k_is);(case z10=>k_is);(case n0=>k_is);(case x0=>k_exc)
  (case n1=>k_is);(case x1=>k_exc);(case n2=>k_is);(case x2=>k_exc)
  (case n3=>k_is);(case x3=>k_exc);(case n4=>k_is);(case x4=>k_exc)
  (case n5=>k_is);(case x5=>k_exc);(case n6=>k_is);(case x6=>k_exc)
  (case n7=>k_is);(case x7=>k_exc);(case lk1=>k_is);(case mr1=>with_unfolding_all rfl)
  (case ga1=>k_is);(case gt1=>k_is);(case cc1=>k_is);(case lk2=>k_is)
  (case mr2=>with_unfolding_all rfl);(case ga2=>k_is);(case gt2=>k_is);(case cc2=>k_is)
  (case nd=>decide)
  all_goals ((first | refine' M87.gm ?a ?l ?c ?k ?i | refine' M87.mm ?a ?l ?c ?k ?i);(case a=>k_is);(case l=>k_is);(case c=>k_is);(case k=>k_is);(case i=>k_is))
#print axioms PySem.Challenge.cw_floorfits_k87_changes_refused_holds
end
