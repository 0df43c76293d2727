import PyProof.Rows.All
import Wide.All
import OpenK.AllK
import Wide.FinOn
import Lean
import PyProof.EqAt
import PyProof.EqKinds
import PyProof.TupleCall
import PySem.SetTable
import PyProof.TupleKey
import Wide.Seal
import PyProof.DictRoadsH
import PyProof.Rows.TupTab
import PyProof.Rows.TupDisplay
import PyProof.Draws
import PyProof.EnumMake
import OpenK.KRaise
import OpenK.KOwn
import PyProof.Rows.TopTwo
import PyProof.RulesAs
import PyProof.RulesDel
import PyProof.ExcArgsOwn
import PyProof.ExcAttrAll.ValueError
import PyProof.Rows.CountFlat
import PyProof.SumWalk
import PyProof.Rows.SeqCalls
import PyProof.ZipIter
import KE.KRevIter
import PyProof.CollectIter
import PyProof.TupleOfGen
import PyProof.ListRange
import PyProof.WalkInts
import PySem.Challenge.RW_floorfits_k85_whole_orders
def yaa:=@PySem.wpAny_bind
def yab:=@List.getElem?_eq_getElem
def yac:=@Bool.and_eq_true
def yad:=@List.length_map
def yae:=@PySem.wpAny_pure
def yaf:=@List.getD_eq_getElem?_getD
def yag:=@PySem.Heap.get?_push_of_some
def yah:=@List.size_toArray
def yai:=@List.getElem?_eq_some_iff
def yaj:=@Nat.le_refl
def yak:=@Nat.le_trans
def yal:=@List.getElem?_map
def yam:=@List.length_append
def yan:=@List.length_cons
def yao:=@PySem.Heap.get?_push_size
def yap:=@Nat.lt_of_lt_of_le
def yaq:=@of_decide_eq_true
def yar:=@PySem.Heap.lt_size
def yas:=@List.getElem?_append_right
def yat:=@List.mem_map
def yau:=@List.mem_cons
def yav:=@List.map_cons
def yaw:=@List.mem_cons_of_mem
def yax:=@Nat.ne_of_lt
def yay:=@List.getElem?_append_left
def yaz:=@List.lookup_cons
def yaA:=@List.mem_cons_self
def yaB:=@decide_eq_true
def yaC:=@List.length_take
def yaD:=@Array.length_toList
def yaE:=@Option.some_ne_none
def yaF:=@List.mem_singleton
def yaG:=@List.length_replicate
def yaH:=@List.getElem?_set_self
def yaI:=@Int.toNat_natCast
def yaJ:=@List.mem_append_right
def yaK:=@PySem.mem_of_lookup
def yaL:=@List.length_set
def yaM:=@Bool.false_eq_true
def yaN:=@PySem.W.mg_none_of
def yaO:=@List.map_map
def yaP:=@Bool.false_ne_true
def yaQ:=@List.getElem_mem
def yaR:=@beq_eq_false_iff_ne
def yaS:=@List.append_nil
def yaT:=@List.getElem?_set_ne
def yaU:=@PySem.wpAny_call_entry
def yaV:=@PySem.wpAny_callSpecial?_slot
def yaW:=@decide_eq_false
def yaX:=@PySem.wpAny_newObj_type
def yaY:=@PyProof.Rows.slot_tuple_getitem
def yaZ:=@decide_eq_true_eq
def ya0:=@PySem.Heap.size_push
def ya1:=@List.length_filter_le
def ya2:=@List.getElem?_eq_none
def ya3:=@List.mem_append
def ya4:=@List.not_mem_nil
def ya5:=@Nat.lt_irrefl
def ya6:=@Nat.ne_of_gt
def ya7:=@PyProof.Rows.callWith_type1
def ya8:=@List.replicate_succ
def ya9:=@List.getElem?_replicate
def yba:=@Nat.zero_le
def ybb:=@List.mem_of_getElem?
def ybc:=@List.mem_range
def ybd:=@PySem.W.kia_one
def ybe:=@Array.getElem?_eq_getElem
def ybf:=@List.length_drop
def ybg:=@PySem.wpAny_truthy_bool
def ybh:=@List.length_singleton
def ybi:=@Array.getElem?_toList
def ybj:=@List.getElem?_drop
def ybk:=@PySem.Obj.data_mapFields
def ybl:=@List.all_eq_true
def ybm:=@List.mem_flatMap
def ybn:=@List.flatMap_cons
def ybo:=@Nat.mul_le_mul
def ybp:=@PySem.Heap.get?_update_self
def ybq:=@List.eq_nil_of_length_eq_zero
def ybr:=@PySem.wpAny_holding
def ybs:=@PySem.F.plainAttrs_list
def ybt:=@PySem.W.mg_of
def ybu:=@Int.eq_ofNat_of_zero_le
def ybv:=@PySem.wpAny_seqItems
def ybw:=@Nat.sub_self
def ybx:=@PyProof.Rows.F.plain_set_update_loop
def yby:=@List.flatten_cons
def ybz:=@List.ext_getElem?
def ybA:=@PySem.wpAny_field
def ybB:=@List.range_succ
def ybC:=@List.map_append
def ybD:=@PySem.F.slot_tuple_iterator_next
def ybE:=@PySem.wpAny_mono
def ybF:=@Nat.lt_succ_self
def ybG:=@List.isEmpty_iff
def ybH:=@List.map_flatMap
def ybI:=@PySem.wpAny_pyIter_tuple
def ybJ:=@List.all_cons
def ybK:=@List.getLastD_eq_getLast?
def ybL:=@if_false
def ybM:=@List.mem_filter
def ybN:=@PySem.wpAny_passesOwn
def ybO:=@List.nodup_cons
def ybP:=@List.append_assoc
def ybQ:=@List.filterMap_cons
def ybR:=@Nat.le_succ
def ybS:=@PySem.wpAny_isInstance
def ybT:=@if_true
def ybU:=@Array.getElem?_eq_none
def ybV:=@List.mem_filterMap
def ybW:=@PySem.wpAny_Call_Name_kw
def ybX:=@PySem.F.slot_int_rmul
def ybY:=@List.find?_cons
def ybZ:=@PySem.F.called_set
def yb0:=@Nat.lt_succ_of_lt
def yb1:=@Bool.not_eq_true'
def yb2:=@Array.getElem?_eq_some_iff
def yb3:=@PySem.F.excBase_ValueError
def yb4:=@PySem.Calls.evalArgs_plain
def yb5:=@PySem.wpAny_binaryOp_repeat_ref
def yb6:=@List.drop_eq_getElem_cons
def yb7:=@PyProof.Rows.F.entry_set_update_loop
def yb8:=@beq_self_eq_true
def yb9:=@List.map_congr_left
def yca:=@Nat.le_of_lt
def ycb:=@PySem.F.args_tuple_add_2
def ycc:=@PySem.call_meets
def ycd:=@PySem.AutoSeq1.wpAny_loadPart'
def yce:=@PySem.F.entry_tuple_add
def ycf:=@List.getElem?_take
def ycg:=@Bool.eq_iff_iff
def ych:=@PySem.wpAny_ite_split
def yci:=@PySem.wpAny_setField_rec
def ycj:=@List.getElem?_cons_succ
def yck:=@Nat.min_eq_left
def ycl:=@decide_eq_false_iff_not
def ycm:=@PySem.F.slot_tuple_add
def ycn:=@PyProof.Rows.subscriptTail_builtinR
def yco:=@PySem.Calls.callWith_builtin
def ycp:=@PySem.wpAny_pyIter_list
def ycq:=@beq_iff_eq
def ycr:=@PySem.wpAny_of_eq
def ycs:=@List.length_range
def yct:=@PySem.wpAny_setField
def ycu:=@or_false
def ycv:=@PySem.wpAny_typeOf
def ycw:=@PySem.codeAny_mono
def ycx:=@List.take_append_drop
def ycy:=@PySem.Obj.isFreed_of_fields
def ycz:=@PySem.F.slot_tuple_mul
def ycA:=@PySem.wpAny_forIn_list
def ycB:=@List.countP_cons
def ycC:=@Bool.not_eq_true
def ycD:=@List.mem_append_left
def ycE:=@List.getElem?_of_mem
def ycF:=@List.mem_iff_getElem
def ycG:=@PySem.Around.under_plainId
def ycH:=@List.length_dropLast
def ycI:=@Bool.not_true
def ycJ:=@PySem.wpAny_attempt
def ycK:=@List.sum_cons
def ycL:=@PySem.wpAny_rule
def ycM:=@PySem.typeIs_int
def ycN:=@PySem.wpAny_execs_nil
def ycO:=@PySem.W.plainGet_of
def ycP:=@List.forIn_cons
def ycQ:=@Bool.or_eq_true
def ycR:=@PySem.F.slot_zip_next
def ycS:=@PySem.codeAny_builtin
def ycT:=@List.length_nil
def ycU:=@PyProof.Rows.assignInOrder_cons
def ycV:=@PySem.Calls.spliced_cons
def ycW:=@PySem.wpAny_tupleItemsOf
def ycX:=@Array.forIn_toList
def ycY:=@PySem.W.callWith_K
def ycZ:=@Int.emod_lt_of_pos
def yc0:=@PySem.Value.isInt_shape
def yc1:=@List.any_eq_false
def yc2:=@PySem.F.args_int_rmul_2
def yc3:=@Nat.le_of_succ_le
def yc4:=@PySem.Obj.cls_mapFields
def yc5:=@List.pairwise_map
def yc6:=@PySem.wpAny_standAt
def yc7:=@List.map_drop
noncomputable section
set_option Elab.async false
set_option linter.all false
set_option maxRecDepth 100000
set_option maxHeartbeats 4000000
abbrev Z1:=Nat->Nat->Option Int
abbrev Z2:=List (List Int)
abbrev Z3:=List (PySem.Addr×PySem.Obj)
abbrev Z4:=List (Option Int)
abbrev Z5:=PySem.Value->PySem.Shared->Prop
abbrev Z6:=PySem.Str->Option PySem.Value
def S2.bdI{c k:Nat}(h:c<=k)(hk:k<=1000000):-1000000<=(c:Int)/\(c:Int)<=1000000:=⟨Int.le_trans (by decide) (Int.natCast_nonneg c),Int.ofNat_le.mpr (yak h hk)⟩
def S2.bdN{c k:Nat}(h:c<=k)(hk:k<=1000000):0<=(c:Int)/\(c:Int)<=1000000:=⟨Int.natCast_nonneg c,Int.ofNat_le.mpr (yak h hk)⟩
local macro_rules | `(tactic| omega) => `(tactic| first | assumption | exact yak (by assumption) (by decide) | exact yap (by assumption) (by assumption) | exact yap (by assumption) (by decide) | exact yca (by assumption) | exact S2.bdI (by assumption) (by decide) | exact yak (by assumption) (by assumption) | omega +splitDisjunctions)
namespace L2
open PySem PySem.Spec PyProof.Rows
noncomputable abbrev Key:=Sum Int Str
noncomputable def zsR:Key->Value->Bool
 | .inl k,v=>Value.isInt k v
 | .inr x,v=>Value.isStrOf x v
noncomputable def zyT(w:World):Key->Int
 | .inl k=>hashInt k
 | .inr x=>hashStr w x
theorem zaQ:∀{k:Key} {v:Value},zsR k v=true->(∃i t,k=Sum.inl i/\v=Value.int i t)\/(∃x t,k=Sum.inr x/\v=Value.str x t)
 | .inl i,v,h=>by
  obtain ⟨t,e⟩:=yc0 (k:=i) (v:=v) h;exact .inl ⟨i,t,rfl,e⟩
 | .inr x,v,h=>by
  obtain ⟨t,e⟩:=Value.isStrOf_shape (x:=x) (v:=v) h;exact .inr ⟨x,t,rfl,e⟩
def zsQ(a b:Int):decide ((Sum.inl a:Key)=Sum.inl b)=(a == b):=by
 by_cases e:a=b
 ·subst e;simp
 ·have h:¬ (Sum.inl a:Key)=Sum.inl b:=fun q=>e (Sum.inl.inj q)
  rw [yaW h];exact (yaR.mpr e).symm
def zsN(a b:Str):decide ((Sum.inr a:Key)=Sum.inr b)=decide (a=b):=by
 by_cases e:a=b
 ·subst e;simp
 ·have h:¬ (Sum.inr a:Key)=Sum.inr b:=fun q=>e (Sum.inr.inj q)
  rw [yaW h,yaW e]
def zsP(a:Int)(b:Str):decide ((Sum.inl a:Key)=Sum.inr b)=false:=yaW (fun q=>nomatch q)
def zsO(a:Str)(b:Int):decide ((Sum.inr a:Key)=Sum.inl b)=false:=yaW (fun q=>nomatch q)
def zld(prog:Program)(w:World):PySem.KeyKind prog w Key where
 is:=zsR
 hash:=zyT w
 inj:=fun v a b ha hb=>by
  rcases zaQ ha with ⟨i,t,rfl,rfl⟩ | ⟨x,t,rfl,rfl⟩
  ·rcases zaQ hb with ⟨j,u,rfl,e⟩ | ⟨y,u,rfl,e⟩
   ·injection e with e1 _;rw [e1]
   ·exact nomatch e
  ·rcases zaQ hb with ⟨j,u,rfl,e⟩ | ⟨y,u,rfl,e⟩
   ·exact nomatch e
   ·injection e with e1 _;rw [e1]
 byValue:=fun k v h=>by
  rcases zaQ h with ⟨i,t,rfl,rfl⟩ | ⟨x,t,rfl,rfl⟩<;>rfl
 pyHash:=fun hv h=>by
  rcases zaQ hv with ⟨i,t,rfl,rfl⟩ | ⟨x,t,rfl,rfl⟩
  ·exact wpAny_pyHash_int h
  ·exact wpAny_pyHash_str h
 eqBool:=fun hu hv h=>by
  rcases zaQ hu with ⟨i,t,rfl,rfl⟩ | ⟨x,t,rfl,rfl⟩
  ·rcases zaQ hv with ⟨j,u,rfl,rfl⟩ | ⟨y,u,rfl,rfl⟩
   ·rw [zsQ] at h;exact wpAny_eqBool_int h
   ·rw [zsP] at h;exact SeqAt.EqAt.int_str i t y u _ _ _ _ h
  ·rcases zaQ hv with ⟨j,u,rfl,rfl⟩ | ⟨y,u,rfl,rfl⟩
   ·rw [zsO] at h;exact SeqAt.EqAt.str_int x t j u _ _ _ _ h
   ·rw [zsN] at h;exact wpAny_eqBool_str h
 «strs»:=fun k x t v h=>by
  rcases zaQ h with ⟨i,u,rfl,e⟩ | ⟨y,u,rfl,e⟩
  ·exact nomatch e
  ·injection e with e1 _
   subst e1
   cases v<;>rfl
inductive V where
 | non | bl (b:Bool) | int (i:Int) | str (x:Str) | byt (b:Array UInt8) | flt (b:UInt64) | ref (a:Addr) | ty (n:String)
 deriving DecidableEq
noncomputable def zbr:V->Value->Prop
 | .non,u=>u=Value.none
 | .bl b,u=>u=Value.bool b
 | .int i,u=>∃t,u=Value.int i t
 | .str x,u=>∃t,u=Value.str x t
 | .byt b,u=>∃t,u=Value.bytes b t
 | .flt b,u=>∃t,u=Value.float b t
 | .ref a,u=>u=Value.ref a
 | .ty n,u=>u=Value.type n
noncomputable abbrev Vals:List V->List Value->Prop:=Paired zbr
theorem Vals.length(r:Vals xs us):xs.length=us.length:=Paired.length r
theorem Vals.get:∀{xs:List V} {us:List Value} {i:Nat} {x:V},Vals xs us->xs[i]?=some x->∃u,us[i]?=some u/\zbr x u
 | _,_,_,_,.nil,e=>by simp at e
 | _,_,0,_,.cons r _,e=>by simp at e;subst e;exact ⟨_,rfl,r⟩
 | _,_,i+1,x,.cons _ t,e=>by
  obtain ⟨u,h1,h2⟩:=Vals.get (i:=i) (x:=x) t (by simpa using e);exact ⟨u,by simpa using h1,h2⟩
theorem Vals.append:∀{xs ys:List V} {us ws:List Value},Vals xs us->Vals ys ws->Vals (xs++ys) (us++ws)
 | _,_,_,_,.nil,s=>s
 | _,_,_,_,.cons r t,s=>.cons r (Vals.append t s)
theorem Vals.take:∀{xs:List V} {us:List Value} (n:Nat),Vals xs us->Vals (xs.take n) (us.take n)
 | _,_,0,_=>.nil
 | _,_,_+1,.nil=>.nil
 | _,_,n+1,.cons r t=>.cons r (Vals.take n t)
theorem Vals.drop:∀{xs:List V} {us:List Value} (n:Nat),Vals xs us->Vals (xs.drop n) (us.drop n)
 | _,_,0,r=>r
 | _,_,_+1,.nil=>.nil
 | _,_,n+1,.cons _ t=>Vals.drop n t
noncomputable def zml:Option V->Option Value->Prop
 | some v,some u=>zbr v u
 | none,none=>True
 | _,_=>False
noncomputable def KV{κ:Type}:List (κ×V)->List (κ×Value)->Prop:=Paired fun (p:κ×V) (q:κ×Value)=>p.1=q.1/\zbr p.2 q.2
noncomputable def kV:Key->V
 | .inl i=>.int i
 | .inr x=>.str x
inductive HO where
 | lst (xs:List V)
 | tup (xs:List V)
 | dK (kvs:List (Key×V)) | dT (kvs:List (List Key×V))
 | set (S:Int->Bool) (n:Nat)
 | ins (C dx:Addr) (fs:List (Str×V))
 | own (x:Addr)
 | xd (fs:List (Str×V))
 | met (f x:Addr)
 | rng (lo hi:Int)
 | frz (o:Obj) (u:HO)
 | tbl (ps:Array Value)
 | ext (φ:Heap->Prop)
noncomputable abbrev Hp:=Addr->Option HO
noncomputable def upd(H:Hp)(a:Addr)(o:HO):Hp:=fun b=>if b=a then some o else H b
def zay:upd H a o a=some o:=by unfold upd;rw [if_pos rfl]
def zao(h:b≠a):upd H a o b=H b:=by unfold upd;rw [if_neg h]
def zav{H:Hp}{a b:Addr}{o:HO}(h:H a=some o)(h':H b=none):a≠b:=by
 intro e;subst e;rw [h] at h';cases h'
noncomputable def znY(h:Heap)(a:Addr)(items:Array Value):Prop:=∃o,h.get? a=some o/\o.cls=.type "tuple" /\ ∃n,o.data=.seq items n/\o.dict=none
theorem znY.t{h:Heap}{a:Addr}{items:Array Value}:znY h a items->IsTup h a items | ⟨o,e,c,n,d,_⟩=>⟨o,e,c,n,d⟩
def znY.new(h:Heap)(items:Array Value):znY (h.push { cls:=.type "tuple",data:=.seq items }) h.objs.size items:=⟨_,yao _ rfl,rfl,_,rfl,rfl⟩
section
variable(P:Program)(w:World)
def zbL(H:Hp)(h:Heap)(a:Addr):HO->Prop
 | .lst xs=>xs.length<=sizeLine/\∃(its:List Value) (n:Nat),Vals xs its/\h.get? a=some { cls:=.type "list",data:=.seq its.toArray n }
 | .tup xs=>xs.length<=sizeLine/\∃its:List Value,Vals xs its/\znY h a its.toArray
 | .dK kvs=>kvs.length<=sizeLine/\(a == sysModules)=false/\∃vs,KV kvs vs/\h.DictOf (zld P w) a vs
 | .dT kvs=>kvs.length<=sizeLine/\(a == sysModules)=false/\∃xs:List (List Key×Addr×Value),
   Paired (fun (p:List Key×V) (q:List Key×Addr×Value)=>p.1=q.1/\H q.2.1=some (.tup (p.1.map kV))/\zbr p.2 q.2.2) kvs xs ∧
   ∃o es ep,h.get? a=some o/\o.ExactDict/\o.data=.dict es ep/\es.toList=xs.map (entryOfKey (tupleKind (zld P w)))/\(xs.map (·.1)).Nodup
 | .set S n=>h.SetOf (intKind P w) a S n
 | .ins C dx fs=>H dx=some (.own a)/\fs.length<=1000/\dx≠a/\h.get? a=some (PySem.W.instObj C dx) ∧
   ∃mA,h.Ns1 dx mA/\(∀f,zml (fs.lookup f) (mA f))/\PySem.Within mA (fs.map (·.1))
 | .own _=>∃o,h.get? a=some o
 | .xd fs=>∃mA,h.Ns1 a mA/\∀f,zml (fs.lookup f) (mA f)
 | .rng lo hi=>∃t u v,h.get? a=some { cls:=.type "range",data:=.fields #[.int lo t,.int hi u,.int 1 v] }
 | .frz o u=>h.get? a=some o/\zbL H h a u
 | .tbl ps=>h.get? a=some { cls:=.none,data:=.fields ps }
 | .met f x=>h.get? a=some (PySem.W.methodObj (.ref f) (.ref x))
 | .ext φ=>φ h/\(∃o,h.get? a=some o)/\∀h1 h2:Heap,φ h1->(∀o,h1.get? a=some o->h2.get? a=some o)->φ h2
noncomputable def HOk(H:Hp)(h:Heap):Prop:=∀a o,H a=some o->zbL P w H h a o
end
section
variable{P:Program}{w:World}{H H':Hp}{h h':Heap}{a:Addr}{o:HO}
theorem zbL.lt(x:zbL P w H h a o):a<h.objs.size:=by
 cases o with
 | lst xs=>obtain ⟨_,_,_,_,e⟩:=x;exact yar e
 | tup xs=>obtain ⟨_,_,_,p⟩:=x;exact p.t.lt
 | dK kvs=>obtain ⟨_,_,_,_,o,_,_,e,_⟩:=x;exact yar e
 | dT kvs=>obtain ⟨_,_,_,_,o,_,_,e,_⟩:=x;exact yar e
 | set S n=>obtain ⟨o,_,_,_,e,_⟩:=x;exact yar e
 | ins C dx fs=>obtain ⟨_,_,_,e,_⟩:=x;exact yar e
 | own y=>obtain ⟨_,e⟩:=x;exact yar e
 | xd fs=>obtain ⟨_,⟨_,_,_,e,_⟩,_⟩:=x;exact yar e
 | rng lo hi=>obtain ⟨_,_,_,e⟩:=x;exact yar e
 | frz ob u=>obtain ⟨e,_⟩:=x;exact yar e
 | tbl ps=>exact yar (show h.get? a=some _ from x)
 | met f y=>exact yar (show h.get? a=some _ from x)
 | ext φ=>obtain ⟨_,⟨_,e⟩,_⟩:=x;exact yar e
theorem Paired.mapP{α β:Type}{F G:α->β->Prop}:∀{l₁:List α} {l₂:List β},Paired F l₁ l₂->(∀a b,F a b->G a b)->Paired G l₁ l₂
 | _,_,.nil,_=>.nil
 | _,_,.cons r t,f=>.cons (f _ _ r) (Paired.mapP t f)
def zbL.stay(x:zbL P w H h a o)(k:∀b u,(b=a\/H b=some (.own a))->h.get? b=some u->h'.get? b=some u)
  (ho:∀b,H b=some (.own a)->H' b=some (.own a)) (ht:∀b xs,H b=some (.tup xs)->H' b=some (.tup xs)):zbL P w H' h' a o:=by
 induction o with
 | lst xs=>obtain ⟨z,its,n,r,e⟩:=x;exact ⟨z,its,n,r,k _ _ (.inl rfl) e⟩
 | tup xs=>obtain ⟨z,its,r,ob,e,c⟩:=x;exact ⟨z,its,r,ob,k _ _ (.inl rfl) e,c⟩
 | dK kvs=>obtain ⟨z,y,vs,r,ob,es,ep,e,c⟩:=x;exact ⟨z,y,vs,r,ob,es,ep,k _ _ (.inl rfl) e,c⟩
 | dT kvs =>
  obtain ⟨z,y,xs,r,ob,es,ep,e,c⟩:=x;exact ⟨z,y,xs,Paired.mapP r fun p q z=>⟨z.1,ht _ _ z.2.1,z.2.2⟩,ob,es,ep,k _ _ (.inl rfl) e,c⟩
 | set S n=>obtain ⟨ob,es,ep,t,e,c⟩:=x;exact ⟨ob,es,ep,t,k _ _ (.inl rfl) e,c⟩
 | ins C dx fs =>
  obtain ⟨d,z,ne,e,mA,⟨od,es,ep,e2,c⟩,r⟩:=x;exact ⟨ho _ d,z,ne,k _ _ (.inl rfl) e,mA,⟨od,es,ep,k _ _ (.inr d) e2,c⟩,r⟩
 | own y=>obtain ⟨ob,e⟩:=x;exact ⟨ob,k _ _ (.inl rfl) e⟩
 | xd fs=>obtain ⟨mA,⟨od,es,ep,e,c⟩,r⟩:=x;exact ⟨mA,⟨od,es,ep,k _ _ (.inl rfl) e,c⟩,r⟩
 | rng lo hi=>obtain ⟨t,u,v,e⟩:=x;exact ⟨t,u,v,k _ _ (.inl rfl) e⟩
 | frz ob u ih=>obtain ⟨e,q⟩:=x;exact ⟨k _ _ (.inl rfl) e,ih q⟩
 | tbl ps =>
  have e:h.get? a=some { cls:=.none,data:=.fields ps }:=x;show h'.get? a=some { cls:=.none,data:=.fields ps };exact k a _ (.inl rfl) e
 | met f y =>
  have e:h.get? a=some (PySem.W.methodObj (.ref f) (.ref y)):=x;show h'.get? a=some (PySem.W.methodObj (.ref f) (.ref y));exact k a _ (.inl rfl) e
 | ext φ=>obtain ⟨p,⟨o,e⟩,st⟩:=x;exact ⟨st _ _ p fun o q=>k _ _ (.inl rfl) q,⟨o,k _ _ (.inl rfl) e⟩,st⟩
theorem HOk.lt(x:HOk P w H h)(e:H a=some o):a<h.objs.size:=(x a o e).lt
def HOk.fresh(x:HOk P w H h)(e:h.objs.size<=a):H a=none:=by
 cases q:H a with
 | none=>rfl
 | some u=>exact absurd (yap (x.lt q) e) (ya5 _)
def HOk.kept(x:HOk P w H h)(k:∀b u,h.get? b=some u->h'.get? b=some u):HOk P w H h':=fun a o e =>
 (x a o e).stay (fun b u _ q=>k b u q) (fun _ q=>q) fun _ _ q=>q
def HOk.laid(x:HOk P w H h)(k:∀b u,h.get? b=some u->h'.get? b=some u)(hp:h.objs.size<=a)(new:zbL P w (upd H a o) h' a o):HOk P w (upd H a o) h':=fun b u e=>by
 have hn:=x.fresh hp
 by_cases hb:b=a
 ·subst hb;rw [zay] at e;cases e;exact new
 ·rw [zao hb] at e
  exact (x b u e).stay (fun c v _ q=>k c v q) (fun c q=>by rw [zao (zav q hn)];exact q) fun c xs q=>by rw [zao (zav q hn)];exact q
end
noncomputable def Rd(H:Hp)(a:Addr)(u:HO):Prop:=H a=some u\/∃o,H a=some (.frz o u)
def Rd.ok(r:Rd H a u)(x:HOk P w H h):zbL P w H h a u:=by
 rcases r with r | ⟨o,r⟩
 ·exact x a u r
 ·obtain ⟨_,q⟩:=x a _ r;exact q
noncomputable def Mut:Option HO->Prop
 | some (.lst _)=>True
 | some (.dK _)=>True
 | some (.dT _)=>True
 | some (.set _ _)=>True
 | some (.ins _ _ _)=>True
 | some (.ext _)=>True
 | _=>False
section
variable{P:Program}{w:World}{H:Hp}{h h':Heap}{x e:Addr}{o':HO}
def HOk.write(ok:HOk P w H h)(mu:Mut (H x))(he:e=x\/H e=some (.own x))(k:∀b u,b≠e->h.get? b=some u->h'.get? b=some u)(heo:∃u,h'.get? e=some u)
  (new:zbL P w (upd H x o') h' x o'):HOk P w (upd H x o') h':=fun b u q=>by
 have nown:∀c y,H c=some (.own y)->c≠x:=fun c y r z=>by subst z;rwa [r] at mu
 have ntup:∀c xs,H c=some (.tup xs)->c≠x:=fun c xs r z=>by subst z;rwa [r] at mu
 by_cases hb:b=x
 ·subst hb;rw [zay] at q;cases q;exact new
 ·rw [zao hb] at q
  by_cases hbe:b=e
  ·have q':H b=some (.own x):=by
    rcases he with z | z
    ·exact absurd (hbe.trans z) hb
    ·rw [hbe];exact z
   rw [q] at q';cases q';obtain ⟨v,hv⟩:=heo;exact ⟨v,by rw [hbe];exact hv⟩
  ·refine (ok b u q).stay (fun c v hc r=>k c v ?_ r) (fun c r=>by rw [zao (nown c b r)];exact r) fun c xs r=>by rw [zao (ntup c xs r)];exact r
   rcases hc with rfl | hc
   ·exact hbe
   ·rintro rfl
    rcases he with z | z
    ·exact nown c b hc z
    ·rw [hc] at z;cases z;exact hb rfl
end
structure Un(fs ex:List Addr)(H H':Hp)(h h':Heap):Prop where
 keep:∀b o,h.get? b=some o->H b=none->b ∉ fs->b ∉ ex->h'.get? b=some o
 slot:∀b o,h.get? b=some o->H b=none->b∈fs->b ∉ ex->∃sl,h'.get? b=some { o with slots:=sl }
 free:∀b o,h.get? b=some o->H b=none->b ∉ ex->H' b=none
 there:∀b o,h.get? b=some o->b ∉ ex->∃o',h'.get? b=some o'
 tups:∀b xs,H b=some (.tup xs)->H' b=some (.tup xs)
 frzs:∀b o u,H b=some (.frz o u)->H' b=some (.frz o u)
 tbls:∀b ps,H b=some (.tbl ps)->∃more,H' b=some (.tbl (ps++more))
section
variable{fs fs' ex ex':List Addr}{H H1 H2:Hp}{h h1 h2 h':Heap}{a x e:Addr}{o:HO}
def Un.any(u:Un fs ex H H1 h h1)(q:h.get? b=some ob)(n:H b=none)(hx:b ∉ ex):∃sl,h1.get? b=some { ob with slots:=sl }:=by
 by_cases hb:b∈fs
 ·exact u.slot b ob q n hb hx
 ·exact ⟨ob.slots,u.keep b ob q n hb hx⟩
def Un.kept(k:∀b u,h.get? b=some u->h'.get? b=some u):Un fs ex H H h h' :=
 ⟨fun b ob q _ _ _=>k b ob q,fun b ob q _ _ _=>⟨ob.slots,k b ob q⟩,fun _ _ _ n _=>n,fun b ob q _=>⟨ob,k b ob q⟩,fun _ _ q=>q,fun _ _ _ q=>q,fun _ ps q=>⟨#[],by rw [q];simp⟩⟩
def Un.refl:Un fs ex H H h h:=Un.kept fun _ _ q=>q
def Un.laid(k:∀b u,h.get? b=some u->h'.get? b=some u)(hp:h.objs.size<=a)(hn:H a=none):Un fs ex H (upd H a o) h h' where
 keep:=fun b u q _ _ _=>k b u q
 slot:=fun b u q _ _ _=>⟨u.slots,k b u q⟩
 free:=fun b u q n _=>by rw [zao (yax (yap (yar q) hp))];exact n
 there:=fun b u q _=>⟨u,k b u q⟩
 tups:=fun b xs q=>by rw [zao (zav q hn)];exact q
 frzs:=fun b u xs q=>by rw [zao (zav q hn)];exact q
 tbls:=fun b ps q=>⟨#[],by rw [zao (zav q hn),q];simp⟩
def Un.write(mu:Mut (H x))(he:e=x\/H e=some (.own x))(k:∀b u,b≠e->h.get? b=some u->h'.get? b=some u)(heo:∃u,h'.get? e=some u):Un fs ex H (upd H x o) h h':=by
 have hx:∀b,H b=none->b≠x:=fun b n z=>by subst z;rwa [n] at mu
 have hb:∀b,H b=none->b≠e:=fun b n z=>by
  subst z
  rcases he with r | r
  ·exact hx b n r
  ·rw [n] at r;cases r
 have hm:∀b u,H b=some u->¬ Mut (some u)->b≠x:=fun b u q nm z=>by subst z;rw [q] at mu;exact nm mu
 refine ⟨fun b u q n _ _=>k b u (hb b n) q,fun b u q n _ _=>⟨u.slots,k b u (hb b n) q⟩,fun b u q n _=>by rw [zao (hx b n)];exact n,fun b u q _=>?_,
  fun b xs q=>by rw [zao (hm b _ q fun z=>z)];exact q,fun b u xs q=>by rw [zao (hm b _ q fun z=>z)];exact q,fun b ps q=>⟨#[],by rw [zao (hm b _ q fun z=>z),q];simp⟩⟩
 by_cases hbe:b=e
 ·subst hbe;exact heo
 ·exact ⟨u,k b u hbe q⟩
end
noncomputable def trk(h:Heap)(H:Hp):List Addr:=(List.range h.objs.size).filter fun a=>(H a).isSome
def znv(h:Heap)(H:Hp):Heap:=PySem.W.hideAll h (trk h H)
def zlE(h:Heap)(H:Hp):(znv h H).objs.size=h.objs.size:=PySem.W.hideAll_size _ _
def znu(e:h.get? b=some o)(n:H b=none):(znv h H).get? b=some o :=
 PySem.W.hideAll_get _ e fun hm=>by
  have q:(H b).isSome=true:=(ybM.mp hm).2;rw [n] at q;simp at q
def zpM(e:(znv h H).get? b=some o):h.get? b=some o/\H b=none:=by
 have e':h.get? b=some o:=PySem.W.of_hideAll (trk h H) e;refine ⟨e',?_⟩
 cases q:H b with
 | none=>rfl
 | some x =>
  have hm:b∈trk h H:=ybM.mpr ⟨ybc.mpr (yar e'),by simp [q]⟩;have z:(znv h H).get? b=none:=PySem.W.hideAll_none (trk h H) hm;rw [z] at e;cases e
noncomputable def zqQ(g h:Heap)(L:Addr):List (Addr×Obj):=(List.range h.objs.size).filterMap fun a=>if a=L\/(g.get? a).isSome=true then none else (h.get? a).map fun o=>(a,o)
def zbW(g h:Heap)(L d:Addr):List (Addr×Obj):=(zqQ g h L).filter fun p=>decide (p.1≠d)
structure Mod(K:PySem.W.Frag)(mg:Z6)(base:Heap):Prop where
 kin:K.In base
 glob:base.Ns mainGlobals mg
 blt:∃mb,base.Ns builtinsNs mb/\∀x:Str,x ≠ "__name__" -> mb x=bootBuiltins x
 nolimit:base.NoLimit
structure Cx where
 prog:Program
 w:World
 K:PySem.W.Frag
 mg:Str->Option Value
 base:Heap
 A:Around
 N:List Str
 s₀:Shared
 H₀:Hp
 env:Env
 outer:List Env
 stack:List Env
 ex:List Addr
 fn:Str->Bool
 calm:Bool
 pn:List (Addr×Obj)
 xe:Value->Shared->Prop
noncomputable def frs(l:List Env):List Addr:=l.filterMap (·.frame)
noncomputable abbrev Cx.fs(X:Cx):List Addr:=frs X.outer
noncomputable def Vis(sc:Scope)(x:Str):Prop:=sc.names.lookup x=some .local\/sc.names.lookup x=some .cell\/sc.names.lookup x=some .free
noncomputable def Loc(sc:Scope)(x:Str):Prop:=sc.names.lookup x=some .local\/sc.names.lookup x=some .cell
noncomputable def zzM(env:Env)(h:Heap)(m:Z6)(x:Str)(u:Value):Prop :=
 (env.kindOf x=some .local/\m x=some u)\/((env.kindOf x=some .cell\/env.kindOf x=some .free)/\∃c,env.cells.lookup x=some c/\h.IsCell c (some u))
structure Cx.Ok(X:Cx):Prop where
 mod:Mod X.K X.mg X.base
 kind:X.env.scope.kind=.function
 glob:X.env.globals=mainGlobals
 blt:X.env.builtins=builtinsNs
 above:X.s₀.heap.objs.size<=X.env.locals
 inj:∀x y c,X.env.cells.lookup x=some c->X.env.cells.lookup y=some c->x=y
 has:∀x,(X.env.kindOf x=some .cell\/X.env.kindOf x=some .free)->∃c,X.env.cells.lookup x=some c
 cab:∀x c,X.fn x=true->X.env.cells.lookup x=some c->X.s₀.heap.objs.size<=c
 hd:X.calm=true->X.A.handled=none
 frames:X.A.frames=some X.stack
 stk:X.stack=X.outer\/(X.stack=X.env::X.outer/\X.env.frame=some X.env.locals)
 exf:∀b∈X.ex,b≠X.env.locals/\∀x c,X.env.cells.lookup x=some c->c≠b
 bs:∀b o,X.base.get? b=some o->X.s₀.heap.get? b=some o/\X.H₀ b=none
 bsz:X.base.objs.size<=X.s₀.heap.objs.size
 noex:∀b o,X.base.get? b=some o->b ∉ X.ex
 exfs:∀b∈X.ex,b ∉ X.fs
 funs:X.s₀.heap.FunFrames X.base X.outer
 frf:∀b∈X.fs,X.H₀ b=none
structure Inv(X:Cx)(pins:Z3)(σ:List (Option V))(H:Hp)(s:Shared):Prop where
 ok:X.Ok
 os:s.os=X.s₀.os
 bare:AllBare s.gens
 base:Un X.fs X.ex X.H₀ H X.s₀.heap s.heap
 loc:∃m,s.heap.Ns X.env.locals m/\∀(i:Nat) (x:Str) (v:V),X.N[i]?=some x->σ[i]?=some (some v)->Vis X.env.scope x->∃u,zbr v u/\zzM X.env s.heap m x u
 cell:∀x c,X.env.cells.lookup x=some c->∃v,s.heap.IsCell c v
 free:H X.env.locals=none
 freeC:∀x c,X.env.cells.lookup x=some c->H c=none
 pin:∀p∈X.pn++pins,s.heap.get? p.1=some p.2/\H p.1=none/\p.1≠X.env.locals/\p.1 ∉ X.fs/\∀v,p.2.data≠.cell v
 hok:HOk X.prog X.w H s.heap
 len:σ.length=X.N.length
section
variable{X:Cx}{pins:Z3}{σ:List (Option V)}{H H':Hp}{s:Shared}{h':Heap}
def Cx.Ok.nofr(ok:X.Ok)(e:X.base.get? b=some o):b ∉ X.fs:=fun hb=>by
 have:=(ok.funs.mem hb).1;rw [e] at this;cases this
theorem Inv.bs(I:Inv X pins σ H s):∀b o,X.base.get? b=some o->s.heap.get? b=some o/\H b=none:=fun b o e =>
 ⟨I.base.keep b o (I.ok.bs b o e).1 (I.ok.bs b o e).2 (I.ok.nofr e) (I.ok.noex b o e),I.base.free b o (I.ok.bs b o e).1 (I.ok.bs b o e).2 (I.ok.noex b o e)⟩
def Inv.bk(I:Inv X pins σ H s):∀b o,X.base.get? b=some o->s.heap.get? b=some o:=fun b o e=>(I.bs b o e).1
theorem Inv.mod(I:Inv X pins σ H s):Mod X.K X.mg X.base:=I.ok.mod
def Inv.kIn(I:Inv X pins σ H s):X.K.In s.heap:=I.ok.mod.kin.keeps I.bk
theorem Inv.lt(I:Inv X pins σ H s):X.env.locals<s.heap.objs.size:=let ⟨_,hn,_⟩:=I.loc;hn.lt
def Inv.sz(I:Inv X pins σ H s):X.s₀.heap.objs.size<=s.heap.objs.size:=yak I.ok.above (yca I.lt)
def Inv.nofs(I:Inv X pins σ H s)(h:s.heap.objs.size<=a):a ∉ X.fs:=fun hb=>by
 obtain ⟨_,o,ho,_⟩:=I.ok.funs.mem hb;exact absurd (yap (yar ho) (yak I.sz h)) (ya5 _)
def Inv.cne(I:Inv X pins σ H s):∀x c,X.env.cells.lookup x=some c->c≠X.env.locals:=fun x c e z=>by
 obtain ⟨v,o,ho,hd⟩:=I.cell x c e;obtain ⟨m,⟨o',es,ep,ho',hd',_⟩,_⟩:=I.loc;rw [z,ho'] at ho;cases ho;rw [hd'] at hd;cases hd
theorem Inv.funs(I:Inv X pins σ H s):s.heap.FunFrames X.base X.outer:=by
 have all:∀(l:List Env),(∀b∈frs l,b∈X.fs)->X.s₀.heap.FunFrames X.base l->s.heap.FunFrames X.base l:=by
  intro l
  induction l with
  | nil=>intro _ _;trivial
  | cons env r ih =>
   intro hs hl;obtain ⟨hk,⟨L,o,hf,hn,ho,hd⟩,hr⟩:=hl;have hL:L∈X.fs:=hs L (by unfold frs;rw [ybQ,hf];exact yaA);obtain ⟨sl,e⟩:=I.base.slot L o ho (I.ok.frf L hL) hL fun z=>I.ok.exfs L z hL
   exact ⟨hk,⟨L,_,hf,hn,e,hd⟩,ih (fun b hb=>hs b (by unfold frs;rw [ybQ,hf];exact yaw _ hb)) hr⟩
 exact all X.outer (fun _ hb=>hb) I.ok.funs
theorem Inv.stack(I:Inv X pins σ H s):s.heap.FunFrames X.base X.stack:=by
 rcases I.ok.stk with e | ⟨e,hf⟩
 ·rw [e];exact I.funs
 ·rw [e];obtain ⟨m,hn,_⟩:=I.loc;refine .cons (by rw [I.ok.kind];decide) hf hn ?_ I.funs;exact Heap.get?_none_of_le (yak I.ok.bsz I.ok.above)
def Inv.stkSub(I:Inv X pins σ H s):∀b∈frs X.stack,b∈X.env.locals::X.fs:=fun b hb=>by
 rcases I.ok.stk with e | ⟨e,hf⟩
 ·rw [e] at hb;exact yaw _ hb
 ·rw [e] at hb;unfold frs at hb;rwa [ybQ,hf] at hb
def Inv.stkFree(I:Inv X pins σ H s):∀b∈frs X.stack,H b=none:=fun b hb=>by
 rcases yau.mp (I.stkSub b hb) with e | hb
 ·rw [e];exact I.free
 ·obtain ⟨_,o,ho,_⟩:=I.ok.funs.mem hb;exact I.base.free b o ho (I.ok.frf b hb) fun z=>I.ok.exfs b z hb
def Inv.step{g':Array GenState}{t':Nat}{d':Drawn}{ch:List Addr}(I:Inv X pins σ H s)
  (hch:∀b∈ch,(b∈X.ex\/X.s₀.heap.objs.size<=b)/\b≠X.env.locals/\(∀x c,X.env.cells.lookup x=some c->c≠b)/\∀p∈X.pn++pins,p.1≠b)
  (keep:∀b o,b≠X.env.locals->b ∉ X.fs->b ∉ ch->s.heap.get? b=some o->H b=none->h'.get? b=some o)
  (slot:∀b o,b≠X.env.locals->b∈X.fs->b ∉ ch->s.heap.get? b=some o->H b=none->∃sl,h'.get? b=some { o with slots:=sl }) (free:∀b o,b ∉ ch->s.heap.get? b=some o->H b=none->H' b=none)
  (there:∀b o,b ∉ ch->s.heap.get? b=some o->∃o',h'.get? b=some o')
  (tups:∀b xs,H b=some (.tup xs)->H' b=some (.tup xs)) (frzs:∀b o u,H b=some (.frz o u)->H' b=some (.frz o u)) (tbls:∀b ps,H b=some (.tbl ps)->∃more,H' b=some (.tbl (ps++more)))
  (ns:∀m,s.heap.Ns X.env.locals m->h'.Ns X.env.locals m) (hok:HOk X.prog X.w H' h') (hg:AllBare g') :
  Inv X pins σ H' { s with heap:=h',gens:=g',drawn:=d',toks:=t' }:=by
 have neL:∀b o,X.s₀.heap.get? b=some o->b≠X.env.locals:=fun b o e=>yax (yap (yar e) I.ok.above)
 have neC:∀b o,X.s₀.heap.get? b=some o->b ∉ X.ex->b ∉ ch:=fun b o e hx hb=>by
  rcases (hch b hb).1 with z | z
  ·exact hx z
  ·exact absurd (yap (yar e) z) (ya5 _)
 have cellK:∀x c,X.env.cells.lookup x=some c->∀v,s.heap.IsCell c v->h'.IsCell c v:=fun x c e v ⟨o,ho,hd⟩=>by
  have nch:c ∉ ch:=fun z=>(hch c z).2.2.1 x c e rfl
  by_cases hc:c∈X.fs
  ·obtain ⟨sl,q⟩:=slot c o (I.cne x c e) hc nch ho (I.freeC x c e);exact ⟨_,q,hd⟩
  ·exact ⟨o,keep c o (I.cne x c e) hc nch ho (I.freeC x c e),hd⟩
 refine ⟨I.ok,I.os,hg,⟨fun b o e n hb hx=>?_,fun b o e n hb hx=>?_,fun b o e n hx=>?_,fun b o e hx=>?_,fun b xs e=>tups b xs (I.base.tups b xs e),fun b o xs e=>frzs b o xs (I.base.frzs b o xs e),fun b ps e=>?_⟩,?_,fun x c e=>?_,?_,fun x c e=>?_,fun p hp=>?_,hok,I.len⟩
 ·exact keep b o (neL b o e) hb (neC b o e hx) (I.base.keep b o e n hb hx) (I.base.free b o e n hx)
 ·obtain ⟨sl,e1⟩:=I.base.slot b o e n hb hx;obtain ⟨sl',e2⟩:=slot b _ (neL b o e) hb (neC b o e hx) e1 (I.base.free b o e n hx);exact ⟨sl',e2⟩
 ·obtain ⟨o',e1⟩:=I.base.there b o e hx;exact free b o' (neC b o e hx) e1 (I.base.free b o e n hx)
 ·obtain ⟨o',e1⟩:=I.base.there b o e hx;exact there b o' (neC b o e hx) e1
 ·obtain ⟨m1,e1⟩:=I.base.tbls b ps e;obtain ⟨m2,e2⟩:=tbls b _ e1;exact ⟨m1++m2,by rw [e2,Array.append_assoc]⟩
 ·obtain ⟨m,hn,hl⟩:=I.loc;refine ⟨m,ns m hn,fun i x v e1 e2 e3=>?_⟩;obtain ⟨u,r,l⟩:=hl i x v e1 e2 e3;refine ⟨u,r,?_⟩
  rcases l with l | ⟨k,c,e,z⟩
  ·exact .inl l
  ·exact .inr ⟨k,c,e,cellK x c e _ z⟩
 ·obtain ⟨v,z⟩:=I.cell x c e;exact ⟨v,cellK x c e v z⟩
 ·obtain ⟨m,⟨o,_,_,ho,_⟩,_⟩:=I.loc;exact free _ o (fun z=>(hch _ z).2.1 rfl) ho I.free
 ·obtain ⟨v,o,ho,hd⟩:=I.cell x c e;exact free c o (fun z=>(hch c z).2.2.1 x c e rfl) ho (I.freeC x c e)
 ·obtain ⟨e,n,ne,nf,d⟩:=I.pin p hp;have nch:p.1 ∉ ch:=fun z=>(hch p.1 z).2.2.2 p hp rfl
  exact ⟨keep p.1 p.2 ne nf nch e n,free p.1 p.2 nch e n,ne,nf,d⟩
def Inv.un(I:Inv X pins σ H s)(u:Un X.fs [] H H' s.heap h')(hok:HOk X.prog X.w H' h'):Inv X pins σ H' { s with heap:=h',toks:=t' }:=by
 obtain ⟨m,⟨o,es,ep,ho,r⟩,_⟩:=id I.loc;obtain ⟨sl,hL⟩:=u.any ho I.free (by simp)
 exact I.step (g':=s.gens) (d':=s.drawn) (ch:=[]) (fun _ z=>nomatch z) (fun b o _ hb _ e n=>u.keep b o e n hb (by simp)) (fun b o _ hb _ e n=>u.slot b o e n hb (by simp)) (fun b o _ e n=>u.free b o e n (by simp)) (fun b o _ e=>u.there b o e (by simp)) u.tups u.frzs u.tbls (fun m' hm=>by
  obtain ⟨o',es',ep',ho',r'⟩:=hm;rw [ho] at ho';cases ho'
  exact ⟨_,es',ep',hL,r'⟩) hok I.bare
def Inv.call(I:Inv X pins σ H s)(u:Un (frs X.stack) ch H H' s.heap h')(hok:HOk X.prog X.w H' h')(hg:AllBare g')
  (hch:∀b∈ch,(b∈X.ex\/X.s₀.heap.objs.size<=b)/\b≠X.env.locals/\(∀x c,X.env.cells.lookup x=some c->c≠b)/\∀p∈X.pn++pins,p.1≠b) :
  Inv X pins σ H' { s with heap:=h',gens:=g',drawn:=d',toks:=t' }:=by
 obtain ⟨m,⟨o,es,ep,ho,r⟩,_⟩:=id I.loc;obtain ⟨sl,hL⟩:=u.any ho I.free fun z=>(hch _ z).2.1 rfl
 exact I.step (ch:=ch) hch (fun b o hL hb hc e n=>u.keep b o e n (fun z=>(yau.mp (I.stkSub b z)).elim hL hb) hc) (fun b o _ _ hc e n=>u.any e n hc) (fun b o hc e n=>u.free b o e n hc) (fun b o hc e=>u.there b o e hc) u.tups u.frzs u.tbls (fun m' hm=>by
  obtain ⟨o',es',ep',ho',r'⟩:=hm;rw [ho] at ho';cases ho'
  exact ⟨_,es',ep',hL,r'⟩) hok hg
def Inv.turned(I:Inv X pins σ H s)(k:∀b o,b≠it->s.heap.get? b=some o->h'.get? b=some o)(hn:H it=none)(hL:it≠X.env.locals)
  (h1:it∈X.ex\/X.s₀.heap.objs.size<=it) (h2:∀x c,X.env.cells.lookup x=some c->c≠it) (h3:∀p∈X.pn++pins,p.1≠it):Inv X pins σ H { s with heap:=h',toks:=t' }:=by
 have nit:∀b u,H b=some u->b≠it:=fun b u e z=>by rw [z,hn] at e;cases e
 refine I.step (g':=s.gens) (d':=s.drawn) (ch:=[it]) (fun b hb=>?_) (fun b o _ _ hc e _=>k b o (fun z=>hc (by simp [z])) e) (fun b o _ _ hc e _=>⟨o.slots,k b o (fun z=>hc (by simp [z])) e⟩) (fun _ _ _ _ n=>n)
  (fun b o hc e=>⟨o,k b o (fun z=>hc (by simp [z])) e⟩) (fun _ _ e=>e) (fun _ _ _ e=>e) (fun b ps e=>⟨#[],by rw [e];simp⟩) (fun m hm=>?_) (fun b u e=>?_) I.bare
 ·have e:b=it:=by simpa using hb
  subst e;exact ⟨h1,hL,h2,h3⟩
 ·obtain ⟨o,es,ep,ho,r⟩:=hm;exact ⟨o,es,ep,k _ o (Ne.symm hL) ho,r⟩
 ·refine (I.hok b u e).stay (fun c v hc q=>k c v ?_ q) (fun _ q=>q) fun _ _ q=>q
  rcases hc with z | z
  ·rw [z];exact nit b u e
  ·exact nit c _ z
def Inv.tok(I:Inv X pins σ H s)(t:Nat):Inv X pins σ H { s with toks:=t }:=I.un (h':=s.heap) (t':=t) Un.refl I.hok
theorem Inv.kept(I:Inv X pins σ H s)(k:∀b u,s.heap.get? b=some u->h'.get? b=some u):Inv X pins σ H { s with heap:=h',toks:=t' }:=I.un (Un.kept k) (I.hok.kept k)
theorem Inv.laid(I:Inv X pins σ H s)(k:∀b u,s.heap.get? b=some u->h'.get? b=some u)(hp:s.heap.objs.size<=a)(new:zbL X.prog X.w (upd H a o) h' a o) :
  Inv X pins σ (upd H a o) { s with heap:=h',toks:=t' }:=I.un (Un.laid k hp (I.hok.fresh hp)) (I.hok.laid k hp new)
theorem Inv.write(I:Inv X pins σ H s)(mu:Mut (H x))(he:e=x\/H e=some (.own x))(k:∀b u,b≠e->s.heap.get? b=some u->h'.get? b=some u)(heo:∃u,h'.get? e=some u)
  (new:zbL X.prog X.w (upd H x o) h' x o):Inv X pins σ (upd H x o) { s with heap:=h',toks:=t' }:=I.un (Un.write mu he k heo) (I.hok.write mu he k heo new)
def Inv.pins_of(I:Inv X pins σ H s)(h:∀p∈pins',s.heap.get? p.1=some p.2/\H p.1=none/\p.1≠X.env.locals/\p.1 ∉ X.fs/\∀v,p.2.data≠.cell v):Inv X pins' σ H s :=
 ⟨I.ok,I.os,I.bare,I.base,I.loc,I.cell,I.free,I.freeC,fun p hp=>(ya3.mp hp).elim (fun z=>I.pin p (ycD _ z)) (h p),I.hok,I.len⟩
def ziZ{N:List Str}(hN:N.Nodup){i j:Nat}{x:Str}(a:N[i]?=some x)(b:N[j]?=some x):i=j:=by
 obtain ⟨h1,e1⟩:=yai.mp a;obtain ⟨h2,e2⟩:=yai.mp b;exact (List.getElem_inj hN).mp (e1.trans e2.symm)
def zgP{M:Model}{A:Around}{E:Z5}{i:Nat}{x:Str}{v:V}{u:Value}{Q:Unit->Shared->Prop}(I:Inv X pins σ H s)(hN:X.N.Nodup)(hi:X.N[i]?=some x)(hx:Loc X.env.scope x)(r:zbr v u)
  (h:∀s',Inv X pins (σ.set i (some v)) H s'->(∃a,Heap.SameBut a s.heap s'.heap/\(a=X.env.locals\/X.env.cells.lookup x=some a))->Q () s') (hf:X.fn x=true\/X.env.scope.names.lookup x=some .local:=by first | exact .inl rfl | exact .inr rfl | assumption):wpAny M A (storeName X.env x u) Q E s:=by
 obtain ⟨m,hn,hl⟩:=id I.loc
 have hcls:(X.env.scope.kind == .class||(X.env.scope.kind == .module&&X.env.locals != X.env.globals))=false:=by rw [I.ok.kind];rfl
 have hiσ:i<σ.length:=by rw [I.len];exact (yai.mp hi).1
 have cne:=I.cne
 have tracked:∀{a:Addr} {h':Heap},(∃o,s.heap.get? a=some o/\H a=none)->Heap.SameBut a s.heap h'->HOk X.prog X.w H h':=fun {a h'} ha hs b ob e=>by
  obtain ⟨_,_,hfree⟩:=ha;refine (I.hok b ob e).stay (fun c w' hc q=>(hs.2 c ?_).trans q) (fun _ q=>q) fun _ _ q=>q
  rintro rfl
  rcases hc with rfl | hc
  ·rw [hfree] at e;cases e
  ·rw [hfree] at hc;cases hc
 rcases hx with hk | hk
 ·refine wpAny_storeName_local hk hn (fun h' hn' hs=>?_) hcls;obtain ⟨oL,_,_,hoL,_⟩:=id hn;refine h _ ⟨I.ok,I.os,I.bare,⟨fun b o e n hb hx=>?_,fun b o e n hb hx=>?_,I.base.free,fun b o e hx=>?_,I.base.tups,I.base.frzs,I.base.tbls⟩,⟨_,hn',fun j y v' e1 e2 e3=>?_⟩,fun y c e=>?_,I.free,I.freeC,fun p hp=>?_,tracked ⟨oL,hoL,I.free⟩ hs,by simpa using I.len⟩ ⟨_,hs,.inl rfl⟩
  ·exact (hs.2 b (yax (yap (yar e) I.ok.above))).trans (I.base.keep b o e n hb hx)
  ·obtain ⟨sl,e1⟩:=I.base.slot b o e n hb hx;exact ⟨sl,(hs.2 b (yax (yap (yar e) I.ok.above))).trans e1⟩
  ·obtain ⟨o',e1⟩:=I.base.there b o e hx;exact ⟨o',(hs.2 b (yax (yap (yar e) I.ok.above))).trans e1⟩
  ·by_cases hj:j=i
   ·subst hj;rw [hi] at e1;cases e1;rw [yaH hiσ] at e2;cases e2;exact ⟨u,r,.inl ⟨hk,by simp⟩⟩
   ·rw [yaT (Ne.symm hj)] at e2;obtain ⟨u',r',q⟩:=hl j y v' e1 e2 e3;refine ⟨u',r',?_⟩
    rcases q with ⟨k,e⟩ | ⟨k,c,e,z⟩
    ·refine .inl ⟨k,?_⟩;have:y≠x:=fun e=>hj (ziZ hN e1 (e ▸ hi))
     simp [this,e]
    ·exact .inr ⟨k,c,e,z.sameBut hs (cne y c e)⟩
  ·obtain ⟨w',z⟩:=I.cell y c e;exact ⟨w',z.sameBut hs (cne y c e)⟩
  ·obtain ⟨e,n,ne,nf,d⟩:=I.pin p hp;exact ⟨(hs.2 p.1 ne).trans e,n,ne,nf,d⟩
 ·have hfn:X.fn x=true:=by
   rcases hf with z | z
   ·exact z
   ·rw [z] at hk;cases hk
  obtain ⟨c,hc⟩:=I.ok.has x (.inl hk);obtain ⟨w',z⟩:=I.cell x c hc;refine wpAny_storeName_cell I.ok.kind hk hc z (fun h' hc' hs=>?_);obtain ⟨oc,hoc,hocd⟩:=id z;refine h { s with heap:=h' } ⟨I.ok,I.os,I.bare,⟨fun b o e n hb hx=>?_,fun b o e n hb hx=>?_,I.base.free,fun b o e hx=>?_,I.base.tups,I.base.frzs,I.base.tbls⟩,⟨m,hn.sameBut hs (Ne.symm (cne x c hc)),fun j y v' e1 e2 e3=>?_⟩,fun y c' e=>?_,I.free,I.freeC,fun p hp=>?_,tracked ⟨oc,hoc,I.freeC x c hc⟩ hs,by simpa using I.len⟩ ⟨c,hs,.inr hc⟩
  ·exact (hs.2 b (yax (yap (yar e) (I.ok.cab x c hfn hc)))).trans (I.base.keep b o e n hb hx)
  ·obtain ⟨sl,e1⟩:=I.base.slot b o e n hb hx;exact ⟨sl,(hs.2 b (yax (yap (yar e) (I.ok.cab x c hfn hc)))).trans e1⟩
  ·obtain ⟨o',e1⟩:=I.base.there b o e hx;exact ⟨o',(hs.2 b (yax (yap (yar e) (I.ok.cab x c hfn hc)))).trans e1⟩
  ·by_cases hj:j=i
   ·subst hj;rw [hi] at e1;cases e1;rw [yaH hiσ] at e2;cases e2;exact ⟨u,r,.inr ⟨.inl hk,c,hc,hc'⟩⟩
   ·rw [yaT (Ne.symm hj)] at e2;obtain ⟨u',r',q⟩:=hl j y v' e1 e2 e3;refine ⟨u',r',?_⟩
    rcases q with q | ⟨k,c',e,z'⟩
    ·exact .inl q
    ·refine .inr ⟨k,c',e,z'.sameBut hs ?_⟩;rintro rfl;exact hj (ziZ hN e1 (I.ok.inj _ _ _ e hc ▸ hi))
  ·by_cases hcc:c'=c
   ·subst hcc;exact ⟨_,hc'⟩
   ·obtain ⟨w2,z2⟩:=I.cell y c' e;exact ⟨w2,z2.sameBut hs hcc⟩
  ·obtain ⟨e,n,ne,nf,d⟩:=I.pin p hp;refine ⟨(hs.2 p.1 ?_).trans e,n,ne,nf,d⟩;intro q;rw [q,hoc] at e;have q':oc=p.2:=Option.some.inj e;exact d w' (by rw [<-q'];exact hocd)
def zdT{M:Model}{A:Around}{E:Z5}{i:Nat}{x:Str}{v:V}{u:Value}{Q:Unit->Shared->Prop}(I:Inv X pins σ H s)(hN:X.N.Nodup)(hi:X.N[i]?=some x)(hx:Loc X.env.scope x)(r:zbr v u)
  (h:∀s',Inv X pins (σ.set i (some v)) H s'->Q () s') (hf:X.fn x=true\/X.env.scope.names.lookup x=some .local:=by first | exact .inl rfl | exact .inr rfl | assumption):wpAny M A (storeName X.env x u) Q E s :=
 zgP I hN hi hx r (fun s' I' _=>h s' I') hf
def Inv.call'(I:Inv X pins σ H s)(ho:s'.os=s.os)(u:Un (frs X.stack) ch H H' s.heap s'.heap)(hok:HOk X.prog X.w H' s'.heap)(hg:AllBare s'.gens)
  (hch:∀b∈ch,(b∈X.ex\/X.s₀.heap.objs.size<=b)/\b≠X.env.locals/\(∀x c,X.env.cells.lookup x=some c->c≠b)/\∀p∈X.pn++pins,p.1≠b):Inv X pins σ H' s':=by
 obtain ⟨h',g',d',t',o'⟩:=s';have e:o'=s.os:=ho;subst e;exact I.call (g':=g') (t':=t') (d':=d') u hok hg hch
end
noncomputable abbrev XK:=Value->Option Addr->Hp->Prop
noncomputable abbrev St:=List (Option V)
noncomputable abbrev VK:=V->Hp->Prop
noncomputable abbrev TE:=St->Hp->VK->Prop
noncomputable abbrev TT:=St->Hp->(Bool->Hp->Prop)->Prop
noncomputable abbrev TA:=St->Hp->(List V->Hp->Prop)->Prop
structure Ends where
 nx:St->Hp->Prop
 rt:VK
 bk:St->Hp->Prop:=fun _ _=>False
 ct:St->Hp->Prop:=fun _ _=>False
noncomputable abbrev TS:=Ends->St->Hp->Prop
noncomputable def EP(X:Cx)(pins:Z3)(σ:St)(Q:VK)(u:Value)(s':Shared):Prop:=∃v H',Inv X pins σ H' s'/\zbr v u/\Q v H'
noncomputable def TP(X:Cx)(pins:Z3)(σ:St)(Q:Bool->Hp->Prop)(b:Bool)(s':Shared):Prop:=∃H',Inv X pins σ H' s'/\Q b H'
noncomputable def AP(X:Cx)(pins:Z3)(σ:St)(Q:List V->Hp->Prop)(us:List Value)(s':Shared):Prop:=∃vs H',Inv X pins σ H' s'/\Vals vs us/\Q vs H'
noncomputable def SP(X:Cx)(pins:Z3)(D:Ends)(f:Flow)(s':Shared):Prop :=
 match f with
 | .next=>∃σ' H',Inv X pins σ' H' s'/\D.nx σ' H'
 | .brk=>∃σ' H',Inv X pins σ' H' s'/\D.bk σ' H'
 | .cont=>∃σ' H',Inv X pins σ' H' s'/\D.ct σ' H'
 | .ret u=>∃v σ' H',Inv X pins σ' H' s'/\zbr v u/\D.rt v H'
noncomputable def PE(X:Cx)(e:Expr)(t:TE):Prop :=
 ∀(pins:Z3) (s:Shared) (σ:St) (H:Hp) (Q:VK),Inv X pins σ H s->t σ H Q->wpAny (model X.prog X.w) X.A (eval e X.env) (EP X pins σ Q) X.xe s
noncomputable def PT(X:Cx)(e:Expr)(t:TT):Prop :=
 ∀(pins:Z3) (s:Shared) (σ:St) (H:Hp) (Q:Bool->Hp->Prop),Inv X pins σ H s->t σ H Q->wpAny (model X.prog X.w) X.A (isTrue e X.env (eval e X.env)) (TP X pins σ Q) X.xe s
noncomputable def PW(X:Cx)(e:Expr)(t:TT):Prop :=
 ∀(whole:Sem Value) (pins:Z3) (s:Shared) (σ:St) (H:Hp) (Q:Bool->Hp->Prop),Inv X pins σ H s->t σ H Q->wpAny (model X.prog X.w) X.A (isTrue e X.env whole) (TP X pins σ Q) X.xe s
def PW.pt(h:PW X e t):PT X e t:=h _
noncomputable def PA(X:Cx)(es:List Expr)(t:TA):Prop :=
 ∀(pos:Pos) (pins:Z3) (s:Shared) (σ:St) (H:Hp) (Q:List V->Hp->Prop),Inv X pins σ H s->t σ H Q->wpAny (model X.prog X.w) X.A (spliced (backTo pos (starEach es X.env))) (AP X pins σ Q) X.xe s
noncomputable def PS(X:Cx)(st:Stmt)(t:TS):Prop :=
 ∀(pins:Z3) (s:Shared) (σ:St) (H:Hp) (D:Ends),Inv X pins σ H s->t D σ H->wpAny (model X.prog X.w) X.A (exec st X.env) (SP X pins D) X.xe s
noncomputable def PSs(X:Cx)(st:List Stmt)(t:TS):Prop :=
 ∀(pins:Z3) (s:Shared) (σ:St) (H:Hp) (D:Ends),Inv X pins σ H s->t D σ H->wpAny (model X.prog X.w) X.A (execs st X.env) (SP X pins D) X.xe s
def thn{α:Type}{t:Sem α}{Q Q':α->Shared->Prop}(h:wpAny M A t Q E s)(hQ:∀a s,Q a s->Q' a s):wpAny M A t Q' E s:=ybE h hQ fun _ _ x=>x
section
variable{X:Cx}
noncomputable def zyy(i:Nat):TE:=fun σ H Q=>∃v,σ[i]?=some (some v)/\Q v H
noncomputable def tC(v:V):TE:=fun _ H Q=>Q v H
def zcl{i:Nat}{x:Str}{pos:Pos}(hN:X.N[i]?=some x)(hv:Vis X.env.scope x)(hd:(x == ("__debug__":Str))=false:=by decide)(hcd:(x == ("__classdict__":Str))=false:=by decide):PE X (.Name x pos) (zyy i):=by
 intro pins s σ H Q I h;obtain ⟨v,e,h⟩:=h;obtain ⟨m,hn,hl⟩:=I.loc;obtain ⟨u,r,l⟩:=hl i x v hN e hv;have fin:EP X pins σ Q u s:=⟨v,H,I,r,h⟩
 rcases l with ⟨hk,hm⟩ | ⟨hk,c,hc,hcell⟩
 ·exact wpAny_Name (wpAny_loadName_local I.ok.kind hk hn hm fin) hd
 ·rcases hk with hk | hk
  ·exact wpAny_Name (wpAny_loadName_cell I.ok.kind hk hc hcell fin) hd
  ·exact wpAny_Name (wpAny_loadName_free I.ok.kind hk hc hcell fin hcd) hd
def zsf{i j pos}:PE X (.Constant (.int i) j pos) (tC (.int i)):=fun _ _ _ H _ I h=>wpAny_Constant_int ⟨.int i,H,I.tok _,⟨_,rfl⟩,h⟩
def zuO{b j pos}:PE X (.Constant (.bool b) j pos) (tC (.bl b)):=fun _ _ _ H _ I h=>Constant_bool ⟨.bl b,H,I,rfl,h⟩
def zsd{j pos}:PE X (.Constant .none j pos) (tC .non):=fun _ _ _ H _ I h=>Constant_none ⟨.non,H,I,rfl,h⟩
def zr8{x j pos}:PE X (.Constant (.str x) j pos) (tC (.str x)):=fun _ _ _ H _ I h=>Calls.Constant_str ⟨.str x,H,I.tok _,⟨_,rfl⟩,h⟩
noncomputable def Gl(X:Cx)(x:Str):Prop:=X.env.kindOf x=some .globalImplicit
def ze7{E:Z5}{pins:Z3}{s:Shared}{σ:St}{H:Hp}{x:Str}{u:Value}{pos:Pos}{Q:Z5}(I:Inv X pins σ H s)(hg:Gl X x)(hm:X.mg x=some u)(h:Q u s)
  (hd:(x == ("__debug__":Str))=false:=by decide):wpAny (model X.prog X.w) X.A (eval (.Name x pos) X.env) Q E s :=
 Calls.Name_function_global I.ok.kind hg (Calls.loadGlobal_global (by rw [I.ok.glob];exact I.mod.glob.keeps I.bk) hm h) hd
def zeu{E:Z5}{pins:Z3}{s:Shared}{σ:St}{H:Hp}{x:Str}{u:Value}{pos:Pos}{Q:Z5}(I:Inv X pins σ H s)(hg:Gl X x)(hm:X.mg x=none)(hv:bootBuiltins x=some u)(h:Q u s)
  (hn:x ≠ "__name__":=by decide) (hd:(x == ("__debug__":Str))=false:=by decide):wpAny (model X.prog X.w) X.A (eval (.Name x pos) X.env) Q E s:=by
 obtain ⟨mb,h1,h2⟩:=I.mod.blt;exact Calls.Name_function_global I.ok.kind hg (Calls.loadGlobal_builtin (by rw [I.ok.glob];exact I.mod.glob.keeps I.bk) hm (by rw [I.ok.blt];exact h1.keeps I.bk) ((h2 x hn).trans hv) h) hd
def zpD{x:Str}{v:V}{u:Value}{pos:Pos}(hg:Gl X x)(hm:X.mg x=some u)(r:zbr v u)(hd:(x == ("__debug__":Str))=false:=by decide):PE X (.Name x pos) (tC v) :=
 fun _ _ _ H _ I h=>ze7 I hg hm ⟨v,H,I,r,h⟩ hd
def zpF{x:Str}{v:V}{u:Value}{pos:Pos}(hg:Gl X x)(hm:X.mg x=none)(hv:bootBuiltins x=some u)(r:zbr v u)(hn:x ≠ "__name__":=by decide)(hd:(x == ("__debug__":Str))=false:=by decide):PE X (.Name x pos) (tC v) :=
 fun _ _ _ H _ I h=>zeu I hg hm hv ⟨v,H,I,r,h⟩ hn hd
variable{a b:Expr}{ta tb:TE}{pos:Pos}
noncomputable def tB(t:TE):TT:=fun σ H Q=>t σ H fun x H1=>∃c,x=.bl c/\Q c H1
def zr2{e:Expr}{t:TE}(h:PE X e t)(he:∀whole,isTrue e X.env whole=(do let v ← whole;standAt e.pos;holding [v] (truthy v)):=by intro _;rfl):PT X e (tB t):=by
 intro pins s σ H Q I hw;refine isTrue_plain (thn (h pins s σ H _ I hw) fun v s1 ⟨x,H1,I1,r1,q1⟩=>?_) (he _);obtain ⟨d,rfl,q⟩:=q1;cases r1;exact ybg ⟨H1,I1,q⟩
variable{tA tB':TT}{zbW:List Expr}
noncomputable def zwJ(t u:TT):TT:=fun σ H Q=>t σ H fun c H1=>if c=true then u σ H1 Q else Q false H1
noncomputable def tOr(t u:TT):TT:=fun σ H Q=>t σ H fun c H1=>if c=true then Q true H1 else u σ H1 Q
noncomputable def zwH(t:TT):TT:=fun σ H Q=>t σ H fun c H1=>Q (!c) H1
def zpt(ha:PT X a tA):PW X (.BoolOp .And [a] pos) tA:=by
 intro wh pins s σ H Q I h;refine isTrue_and (thn (ha pins s σ H Q I h) fun c s1 e=>?_)
 cases c with
 | true=>exact isTrue_and_nil e
 | false=>exact e
def zrY(ha:PT X a tA):PW X (.BoolOp .Or [a] pos) tA:=by
 intro wh pins s σ H Q I h;refine isTrue_or (thn (ha pins s σ H Q I h) fun c s1 e=>?_)
 cases c with
 | false=>exact isTrue_or_nil e
 | true=>exact e
def zrZ(ha:PT X a tA)(hb:PW X (.BoolOp .And (b::zbW) pos) tB'):PW X (.BoolOp .And (a::b::zbW) pos) (zwJ tA tB'):=by
 intro wh pins s σ H Q I h;refine isTrue_and (thn (ha pins s σ H _ I h) fun c s1 ⟨H1,I1,q1⟩=>?_)
 cases c with
 | true=>exact hb wh pins s1 σ H1 Q I1 q1
 | false=>exact ⟨H1,I1,q1⟩
def zuJ(ha:PT X a tA)(hb:PW X (.BoolOp .Or (b::zbW) pos) tB'):PW X (.BoolOp .Or (a::b::zbW) pos) (tOr tA tB'):=by
 intro wh pins s σ H Q I h;refine isTrue_or (thn (ha pins s σ H _ I h) fun c s1 ⟨H1,I1,q1⟩=>?_)
 cases c with
 | true=>exact ⟨H1,I1,q1⟩
 | false=>exact hb wh pins s1 σ H1 Q I1 q1
def zr3(ha:PT X a tA):PT X (.UnaryOp .Not a pos) (zwH tA):=by
 intro pins s σ H Q I h;exact isTrue_not (ha pins s σ H (fun c H1=>Q (!c) H1) I h)
noncomputable def zur(ta tb:TE):TE:=fun σ H Q=>ta σ H fun x H1=>∃c,x=.bl c/\if c=true then tb σ H1 Q else Q (.bl false) H1
noncomputable def zyD(ta tb:TE):TE:=fun σ H Q=>ta σ H fun x H1=>∃c,x=.bl c/\if c=true then Q (.bl true) H1 else tb σ H1 Q
noncomputable def zuk(ta:TE):TE:=fun σ H Q=>ta σ H fun x H1=>∃c,x=.bl c/\Q (.bl (!c)) H1
def zsb{op}(h:PE X a t):PE X (.BoolOp op [a] pos) t:=fun pins s σ H Q I hw=>BoolOp_one (h pins s σ H Q I hw)
def zsh(ha:PE X a ta)(hb:PE X (.BoolOp .And (b::zbW) pos) tb):PE X (.BoolOp .And (a::b::zbW) pos) (zur ta tb):=by
 intro pins s σ H Q I h;refine BoolOp_and (thn (ha pins s σ H _ I h) fun v s1 ⟨x,H1,I1,r1,q1⟩=>?_);obtain ⟨c,rfl,q1⟩:=q1;cases r1;refine ybg ?_
 cases c with
 | true=>exact hb pins s1 σ H1 Q I1 q1
 | false=>exact ⟨.bl false,H1,I1,rfl,q1⟩
def zuN(ha:PE X a ta)(hb:PE X (.BoolOp .Or (b::zbW) pos) tb):PE X (.BoolOp .Or (a::b::zbW) pos) (zyD ta tb):=by
 intro pins s σ H Q I h;refine BoolOp_or (thn (ha pins s σ H _ I h) fun v s1 ⟨x,H1,I1,r1,q1⟩=>?_);obtain ⟨c,rfl,q1⟩:=q1;cases r1;refine ybg ?_
 cases c with
 | false=>exact hb pins s1 σ H1 Q I1 q1
 | true=>exact ⟨.bl true,H1,I1,rfl,q1⟩
def zsc(ha:PE X a ta):PE X (.UnaryOp .Not a pos) (zuk ta):=by
 intro pins s σ H Q I h;refine UnaryOp_ (thn (ha pins s σ H _ I h) fun v s1 ⟨x,H1,I1,r1,q1⟩=>?_);obtain ⟨c,rfl,q1⟩:=q1;cases r1;exact not_of (ybg ⟨.bl (!c),H1,I1,rfl,q1⟩)
noncomputable def tIf(t:TT)(ta tb:TE):TE:=fun σ H Q=>t σ H fun c H1=>if c=true then ta σ H1 Q else tb σ H1 Q
def zmT(hc:PT X c tA)(ha:PE X a ta)(hb:PE X b tb):PE X (.IfExp c a b pos) (tIf tA ta tb):=by
 intro pins s σ H Q I h;refine wpAny_IfExp (thn (hc pins s σ H _ I h) fun d s1 ⟨H1,I1,q1⟩=>?_)
 cases d with
 | true=>exact ha pins s1 σ H1 Q I1 q1
 | false=>exact hb pins s1 σ H1 Q I1 q1
end
noncomputable def SqL(K:PySem.W.Frag)(H:Hp)(a:Addr)(xs:List V):Prop :=
 Rd H a (.lst xs) ∨
  ∃(o:Obj) (its:Array Value) (n:Nat),K.lookup a=some o/\o.cls=.type "list" /\ o.dict=none/\o.data=.seq its n/\its.size<=sizeLine/\Vals xs its.toList
noncomputable def SqT(K:PySem.W.Frag)(H:Hp)(a:Addr)(xs:List V):Prop :=
 Rd H a (.tup xs) ∨
  ∃(o:Obj) (its:Array Value) (n:Nat),K.lookup a=some o/\o.cls=.type "tuple" /\ o.data=.seq its n/\its.size<=sizeLine/\Vals xs its.toList
noncomputable def zzL:Value->Option V
 | .none=>some .non
 | .bool b=>some (.bl b)
 | .int i _=>some (.int i)
 | .str x _=>some (.str x)
 | .bytes b _=>some (.byt b)
 | .float b _=>some (.flt b)
 | .ref a=>some (.ref a)
 | .type n=>some (.ty n)
 | _=>none
def zbr.abs(r:zbr x u):zzL u=some x:=by
 cases x with
 | non=>cases r;rfl
 | bl _=>cases r;rfl
 | int _=>obtain ⟨t,rfl⟩:=r;rfl
 | str _=>obtain ⟨t,rfl⟩:=r;rfl
 | byt _=>obtain ⟨t,rfl⟩:=r;rfl
 | flt _=>obtain ⟨t,rfl⟩:=r;rfl
 | ref _=>cases r;rfl
 | ty _=>cases r;rfl
theorem zbr.inj(r:zbr x u)(q:zbr y u):x=y:=Option.some.inj (r.abs.symm.trans q.abs)
theorem Vals.inj:∀{xs ys:List V} {us:List Value},Vals xs us->Vals ys us->xs=ys
 | _,_,_,.nil,.nil=>rfl
 | _,_,_,.cons r t,.cons r' t'=>by rw [r.inj r',Vals.inj t t']
section
variable{X:Cx}{pins:Z3}{σ:St}{H:Hp}{s:Shared}{a:Addr}{xs ys:List V}
def SqL.of{K:PySem.W.Frag}(h:H a=some (.lst xs)):SqL K H a xs:=.inl (.inl h)
def SqT.of{K:PySem.W.Frag}(h:H a=some (.tup xs)):SqT K H a xs:=.inl (.inl h)
theorem Inv.list(I:Inv X pins σ H s)(h:SqL X.K H a xs):∃its:List Value,Vals xs its/\PlainL s.heap a its.toArray/\xs.length<=sizeLine:=by
 rcases h with h | ⟨o,its,n,hk,hc,hd,hs,hz,r⟩
 ·obtain ⟨z,its,n,r,e⟩:=h.ok I.hok;exact ⟨its,r,⟨_,n,e,rfl,rfl,rfl⟩,z⟩
 ·refine ⟨its.toList,r,⟨o,n,I.kIn a o hk,hc,hd,by simpa using hs⟩,?_⟩;have e:=r.length;simp only [yaD] at e;omega
def Inv.tuple(I:Inv X pins σ H s)(h:SqT X.K H a xs):∃its:List Value,Vals xs its/\IsTup s.heap a its.toArray/\xs.length<=sizeLine:=by
 rcases h with h | ⟨o,its,n,hk,hc,hs,hz,r⟩
 ·obtain ⟨z,its,r,p⟩:=h.ok I.hok;exact ⟨its,r,p.t,z⟩
 ·refine ⟨its.toList,r,⟨o,I.kIn a o hk,hc,n,by simpa using hs⟩,?_⟩;have e:=r.length;simp only [yaD] at e;omega
def Inv.list_inj(I:Inv X pins σ H s)(h:SqL X.K H a xs)(h':SqL X.K H a ys):xs=ys:=by
 obtain ⟨its,r,⟨o,n,e,_,_,d⟩,_⟩:=I.list h;obtain ⟨its',r',⟨o',n',e',_,_,d'⟩,_⟩:=I.list h';rw [e] at e';cases e';rw [d] at d'
 injection d' with d1 _
 have:its=its':=by simpa using congrArg Array.toList d1
 subst this;exact r.inj r'
def Inv.tuple_inj(I:Inv X pins σ H s)(h:SqT X.K H a xs)(h':SqT X.K H a ys):xs=ys:=by
 obtain ⟨its,r,⟨o,e,_,n,d⟩,_⟩:=I.tuple h;obtain ⟨its',r',⟨o',e',_,n',d'⟩,_⟩:=I.tuple h';rw [e] at e';cases e';rw [d] at d'
 injection d' with d1 _
 have:its=its':=by simpa using congrArg Array.toList d1
 subst this;exact r.inj r'
end
section
variable{X:Cx}{st:Stmt}{zbW:List Stmt}{t u:TS}{e:Expr}{te:TE}{pos:Pos}
noncomputable def zrc:TS:=fun D σ H=>D.nx σ H
noncomputable def zyA(t u:TS):TS:=fun D σ H=>t { D with nx:=u D } σ H
def zpu:PSs X [] zrc:=fun _ _ σ H _ I h=>ycN ⟨σ,H,I,h⟩
def zmJ(h1:PS X st t)(h2:PSs X zbW u):PSs X (st::zbW) (zyA t u):=by
 intro pins s σ H D I h;refine wpAny_execs_cons (thn (h1 pins s σ H { D with nx:=u D } I h) fun f s1 q=>?_)
 cases f with
 | next =>
  obtain ⟨σ',H',I',q⟩:=q;exact h2 pins s1 σ' H' D I' q
 | ret v=>exact q
 | brk=>exact q
 | cont=>exact q
def zuK(h1:PS X st t):PSs X [st] t:=by
 intro pins s σ H D I h;refine wpAny_execs_cons (thn (h1 pins s σ H D I h) fun f s1 q=>?_)
 cases f with
 | next=>exact ycN q
 | ret v=>exact q
 | brk=>exact q
 | cont=>exact q
noncomputable def zrg:TS:=fun D σ H=>D.bk σ H
def zpw:PS X (.Pass pos) zrc:=fun _ _ σ H _ I h=>wpAny_Pass ⟨σ,H,I,h⟩
def zmM:PS X (.Break pos) zrg:=fun _ _ σ H _ I h=>wpAny_Break ⟨σ,H,I,h⟩
def Inv.quiet(I:Inv X pins σ H s):interactive X.env=false:=by simp [interactive,I.ok.kind]
noncomputable def zuo(te:TE):TS:=fun D σ H=>te σ H fun _ H1=>D.nx σ H1
def zf9(he:PE X e te)(hs:swapsWith e none pos.line X.env=pure false:=by rfl):PS X (.Expr e pos) (zuo te):=by
 intro pins s σ H D I h;exact wpAny_Expr_any (thn (he pins s σ H _ I h) fun v s1 ⟨x,H1,I1,r1,q1⟩=>⟨σ,H1,I1,q1⟩) I.quiet hs
noncomputable def zyC(te:TE):TS:=fun D σ H=>te σ H D.rt
def zkR(he:PE X e te):PS X (.Return (some e) pos) (zyC te):=by
 intro pins s σ H D I h;exact wpAny_Return_some (thn (he pins s σ H _ I h) fun v s1 ⟨x,H1,I1,r1,q1⟩=>⟨x,σ,H1,I1,r1,q1⟩)
noncomputable def zuj:TS:=fun D _ H=>D.rt .non H
def zpv:PS X (.Return none pos) zuj:=fun _ _ σ H _ I h=>wpAny_Return_none ⟨.non,σ,H,I,rfl,h⟩
noncomputable def zyF(c:TT)(t u:TS):TS:=fun D σ H=>c σ H fun b H1=>if b=true then t D σ H1 else u D σ H1
def zuL(hc:PT X c tc)(ha:PSs X a t)(hb:PSs X b u):PS X (.If c a b pos) (zyF tc t u):=by
 intro pins s σ H D I h;refine wpAny_If (thn (hc pins s σ H _ I h) fun d s1 ⟨H1,I1,q1⟩=>?_)
 cases d with
 | true=>exact ha pins s1 σ H1 D I1 q1
 | false=>exact hb pins s1 σ H1 D I1 q1
end
noncomputable abbrev TG:=V->St->Hp->(St->Hp->Prop)->Prop
noncomputable abbrev TGs:=List V->St->Hp->(St->Hp->Prop)->Prop
noncomputable def PG(X:Cx)(target:Expr)(t:TG):Prop :=
 ∀(pins:Z3) (s:Shared) (σ:St) (H:Hp) (v:V) (u:Value) (Q:St->Hp->Prop),Inv X pins σ H s->zbr v u->t v σ H Q →
  wpAny (model X.prog X.w) X.A (assign target X.env u) (fun _ s'=>∃σ' H',Inv X pins σ' H' s'/\Q σ' H') X.xe s
noncomputable def PGs(X:Cx)(ts:List Expr)(t:TGs):Prop :=
 ∀(pins:Z3) (s:Shared) (σ:St) (H:Hp) (vs:List V) (us:List Value) (Q:St->Hp->Prop),Inv X pins σ H s->Vals vs us->t vs σ H Q →
  wpAny (model X.prog X.w) X.A (assignInOrder ((assignEach ts X.env).map (·.2)) us) (fun _ s'=>∃σ' H',Inv X pins σ' H' s'/\Q σ' H') X.xe s
noncomputable abbrev TSet:=V->V->V->Hp->(Hp->Prop)->Prop
noncomputable def zvQ(X:Cx)(t:TSet):Prop :=
 ∀(pins:Z3) (s:Shared) (σ:St) (H:Hp) (o i v:V) (ov iv u:Value) (Q:Hp->Prop),Inv X pins σ H s->zbr o ov->zbr i iv->zbr v u->t o i v H Q →
  wpAny (model X.prog X.w) X.A (setItem ov iv u) (fun _ s'=>∃H',Inv X pins σ H' s'/\Q H') X.xe s
noncomputable abbrev TIp:=V->V->Hp->VK->Prop
noncomputable def PIp(X:Cx)(op:Operator)(t:TIp):Prop :=
 ∀(pins:Z3) (s:Shared) (σ:St) (H:Hp) (x y:V) (v u:Value) (Q:VK),Inv X pins σ H s->zbr x v->zbr y u->t x y H Q →
  wpAny (model X.prog X.w) X.A (inplaceOp op v u) (EP X pins σ Q) X.xe s
section
variable{X:Cx}{pos:Pos}
noncomputable def zlI(i:Nat):TG:=fun v σ H Q=>Q (σ.set i (some v)) H
def ze2{i:Nat}{x:Str}(hN:X.N.Nodup)(hi:X.N[i]?=some x)(hx:Loc X.env.scope x)(hf:X.fn x=true\/X.env.scope.names.lookup x=some .local:=by first | exact .inl rfl | exact .inr rfl | assumption):PG X (.Name x pos) (zlI i):=by
 intro pins s σ H v u Q I r h;exact wpAny_assign_Name (zdT I hN hi hx r (fun s' I'=>⟨_,H,I',h⟩) hf)
noncomputable def zzE:TGs:=fun vs σ H Q=>vs=[]/\Q σ H
noncomputable def zvs(t:TG)(u:TGs):TGs:=fun vs σ H Q=>∃v r,vs=v::r/\t v σ H fun σ' H'=>u r σ' H' Q
def zkY:PGs X [] zzE:=by
 intro pins s σ H vs us Q I r h;obtain ⟨e,h⟩:=h;subst e;cases r;exact assignInOrder_nil ⟨σ,H,I,h⟩
def zeG{e:Expr}{es:List Expr}{t:TG}{u:TGs}(h1:PG X e t)(h2:PGs X es u)
  (hs:(assignEach (e::es) X.env).map (·.2)=assign e X.env::(assignEach es X.env).map (·.2):=by rfl):PGs X (e::es) (zvs t u):=by
 intro pins s σ H vs us Q I r h;obtain ⟨v,vr,e1,h⟩:=h;subst e1
 cases r with
 | cons r rr =>
  rw [hs];refine ycU (thn (h1 pins s σ H _ _ _ I r h) fun _ s1 ⟨σ1,H1,I1,q1⟩=>?_);exact h2 pins s1 σ1 H1 _ _ Q I1 rr q1
noncomputable def zzC(K:PySem.W.Frag)(n:Nat)(t:TGs):TG:=fun v σ H Q=>∃a xs,v=.ref a/\SqT K H a xs/\xs.length=n/\t xs σ H Q
def zog{es:List Expr}{k:Nat}{t:TGs}{n:Nat}(hc:X.calm=true)(h:PGs X es t)
  (hn:(assignEach es X.env).length=n:=by rfl) (hst:(assignEach es X.env).findIdx? (·.1)=none:=by rfl):PG X (.Tuple es k pos) (zzC X.K n t):=by
 intro pins s σ H v u Q I r hw;obtain ⟨a,xs,e1,hq,hl,hw⟩:=hw;subst e1;cases r;obtain ⟨its,rv,ht,hz⟩:=I.tuple hq;refine assign_Tuple_tuple (I.ok.hd hc) ht (by simp [hn,<-hl,rv.length]) hst fun h' hx=>?_
 have I1:Inv X pins σ H { s with heap:=h' }:=I.kept (t':=s.toks) fun b o e=>hx b o (yax (yar e)) e
 exact h pins _ σ H xs _ Q I1 (by simpa using rv) hw
noncomputable def zzD(to ti:TE)(t:TSet):TG:=fun v σ H Q=>to σ H fun o H1=>ti σ H1 fun i H2=>t o i v H2 fun H3=>Q σ H3
def zoh{o i:Expr}{to ti:TE}{t:TSet}(ho:PE X o to)(hi:PE X i ti)(hs:zvQ X t)
  (ha:∀v,assign (.Subscript o i pos) X.env v=(do
   let ov ← holding [v] (eval o X.env)
   let iv ← holding [v,ov] (eval i X.env)
   standAt pos
   holding [v,ov,iv] (setItem ov iv v)
   release [v,ov,iv] []):=by intro _;rfl):PG X (.Subscript o i pos) (zzD to ti t):=by
 intro pins s σ H v u Q I r h;rw [ha];refine yaa (ybr (thn (ho pins s σ H _ I h) fun ov s1 ⟨x,H1,I1,r1,q1⟩=>?_));refine yaa (ybr (thn (hi pins s1 σ H1 _ I1 q1) fun iv s2 ⟨y,H2,I2,r2,q2⟩=>?_));refine yaa (yc6 (yaa (ybr (thn (hs pins s2 σ H2 x y v ov iv u _ I2 r1 r2 r q2) fun _ s3 ⟨H3,I3,q3⟩=>?_))));exact wpAny_release ⟨σ,H3,I3,q3⟩
noncomputable def zqU(te:TE)(g:TG):TS:=fun D σ H=>te σ H fun x H1=>g x σ H1 D.nx
def ziM{tg e:Expr}{te:TE}{g:TG}(he:PE X e te)(hg:PG X tg g)(hs:swapsWithSole [tg] e pos.line X.env=pure false:=by rfl)(hw:swappedStores [tg] e X.env=pure none:=by rfl)
  (h1:(assignEach [tg] X.env).map (·.2)=[assign tg X.env]:=by rfl):PS X (.Assign [tg] e pos) (zqU te g):=by
 intro pins s σ H D I h;refine wpAny_Assign_stores (thn (he pins s σ H _ I h) fun v s1 ⟨x,H1,I1,r1,q1⟩=>?_) hs hw;rw [h1];exact thn (hg pins s1 σ H1 x v _ I1 r1 q1) fun _ s2 q=>q
def zod{i:Nat}{x:Str}{e:Expr}{te:TE}{pos':Pos}(hN:X.N.Nodup)(hi:X.N[i]?=some x)(hx:Loc X.env.scope x)(he:PE X e te)(hs:swapsWith e (some (.Name x pos')) pos.line X.env=pure false:=by rfl)(hf:X.fn x=true\/X.env.scope.names.lookup x=some .local:=by first | exact .inl rfl | exact .inr rfl | assumption) :
  PS X (.Assign [.Name x pos'] e pos) (zqU te (zlI i)):=by
 intro pins s σ H D I h;refine wpAny_Assign_Name (thn (he pins s σ H _ I h) fun v s1 ⟨y,H1,I1,r1,q1⟩=>?_) hs;exact zdT I1 hN hi hx r1 (fun s2 I2=>⟨_,H1,I2,q1⟩) hf
noncomputable def zwG(i j:Nat)(ta:TA):TS:=fun D σ H=>ta σ H fun vs H1=>∃v w,vs=[v,w]/\D.nx ((σ.set i (some v)).set j (some w)) H1
def zr4{i j:Nat}{x y:Str}{a b:Expr}{ta:TA}{px py pt:Pos}{kt k2 pt2}(hc:X.calm=true)(hN:X.N.Nodup)(hi:X.N[i]?=some x)(hj:X.N[j]?=some y)(hij:i≠j)
  (hx:X.env.scope.names.lookup x=some .local) (hy:X.env.scope.names.lookup y=some .local) (ha:PA X [a,b] ta)
  (hw:swappedStores [.Tuple [.Name x px,.Name y py] kt pt] (.Tuple [a,b] k2 pt2) X.env=pure (some [x,y]))
  (hs:swapsWithSole [.Tuple [.Name x px,.Name y py] kt pt] (.Tuple [a,b] k2 pt2) pos.line X.env=pure false:=by rfl) :
  PS X (.Assign [.Tuple [.Name x px,.Name y py] kt pt] (.Tuple [a,b] k2 pt2) pos) (zwG i j ta):=by
 intro pins s σ H D I h;rw [exec_Assign_arm];refine yaa (yc6 ?_);rw [hs];refine yaa (yae ?_);rw [if_neg (by decide)];refine yaa (Tuple_ (thn (ha _ pins s σ H _ I h) fun us s1 ⟨vs,H1,I1,r1,q1⟩=>?_));obtain ⟨v,w,e1,q1⟩:=q1;subst e1
 obtain ⟨u1,u2,rfl,rv,rw'⟩:∃u1 u2,us=[u1,u2]/\zbr v u1/\zbr w u2:=by
  cases r1 with
  | cons p q =>
   cases q with
   | cons p' q' =>
    cases q';exact ⟨_,_,rfl,p,p'⟩
 refine yaX ?_ (by show 2<=sizeLine;decide);have I2:Inv X pins σ H1 { s1 with heap:=s1.heap.push { cls:=.type "tuple",data:=.seq [u1,u2].toArray } }:=I1.kept (t':=s1.toks) fun b o e=>yag _ e
 rw [hw];refine yaa (yae ?_);show wpAny (model X.prog X.w) X.A (do rule "assign.swapped-stores";let items ← unpackItems (.ref s1.heap.objs.size) 2 none;assignInOrder [fun v=>bindName X.env y v,fun v=>bindName X.env x v] items.reverse;pure Flow.next) _ _ _;refine yaa (ycL (yaa (unpackItems_tuple (items:=#[u1,u2]) (I.ok.hd hc) (IsTup.new s1.heap _) fun h' hx'=>?_)));have I3:=I2.kept (h':=h') (t':=s1.toks) fun b o e=>hx' b o (yax (yar e)) e
 show wpAny _ _ (assignInOrder [fun v=>bindName X.env y v,fun v=>bindName X.env x v] [u2,u1] >>= fun _=>pure Flow.next) _ _ _;refine yaa (ycU (wpAny_bindName (zdT I3 hN hj (.inl hy) rw' (fun s2 I4=>?_) (.inr hy))));refine ycU (wpAny_bindName (zdT I4 hN hi (.inl hx) rv (fun s3 I5=>assignInOrder_nil (yae ?_)) (.inr hx)));rw [List.set_comm _ _ (Ne.symm hij)] at I5;exact ⟨_,H1,I5,q1⟩
noncomputable def zyI(i:Nat)(te:TE)(ti:TIp):TS:=fun D σ H=>∃x,σ[i]?=some (some x)/\te σ H fun y H1=>ti x y H1 fun z H2=>D.nx (σ.set i (some z)) H2
def zr6{i:Nat}{x:Str}{e:Expr}{te:TE}{op:Operator}{ti:TIp}{pos':Pos}(hN:X.N.Nodup)(hi:X.N[i]?=some x)(hx:Loc X.env.scope x)(he:PE X e te)(ho:PIp X op ti)(hf:X.fn x=true\/X.env.scope.names.lookup x=some .local:=by first | exact .inl rfl | exact .inr rfl | assumption) :
  PS X (.AugAssign (.Name x pos') op e pos) (zyI i te ti):=by
 intro pins s σ H D I h;obtain ⟨v,e1,h⟩:=h;obtain ⟨m,hn,hl⟩:=I.loc
 have vis:Vis X.env.scope x:=by rcases hx with k | k;exact .inl k;exact .inr (.inl k)
 obtain ⟨u,r,l⟩:=hl i x v hi e1 vis;refine wpAny_AugAssign_Name ?_
 have go:wpAny (model X.prog X.w) X.A (eval e X.env) (fun w s₂=>wpAny (model X.prog X.w) X.A (inplaceOp op u w) (fun r s₃=>wpAny (model X.prog X.w) X.A (storeName X.env x r) (fun _=>SP X pins D .next) X.xe s₃) X.xe s₂) X.xe s:=by
  refine thn (he pins s σ H _ I h) fun w s1 ⟨y,H1,I1,r1,q1⟩=>?_
  refine thn (ho pins s1 σ H1 v y u w _ I1 r r1 q1) fun z s2 ⟨zv,H2,I2,r2,q2⟩=>?_
  exact zdT I2 hN hi hx r2 (fun s3 I3=>⟨_,H2,I3,q2⟩) hf
 rcases l with ⟨hk,hm⟩ | ⟨hk,c,hc,hcell⟩
 ·exact wpAny_loadName_local I.ok.kind hk hn hm go
 ·rcases hk with hk | hk
  ·exact wpAny_loadName_cell I.ok.kind hk hc hcell go
  ·rcases hx with k | k
   ·have:X.env.scope.names.lookup x=some .free:=hk;rw [k] at this;cases this
   ·have:X.env.scope.names.lookup x=some .free:=hk;rw [k] at this;cases this
end
section
variable{X:Cx}{pos:Pos}
noncomputable def zq9(c:TT)(tb:TS):TS:=fun D σ H=>∃W:Nat->St->Hp->Prop,(∃m,W m σ H)/\∀m σ H,W m σ H →
 c σ H fun b H1=>if b=true then ∃N:St->Hp->Prop,(∀σ' H',N σ' H'->∃m',m'<m/\W m' σ' H')/\tb { D with nx:=N,ct:=N,bk:=D.nx } σ H1 else D.nx σ H1
def zmK(hp:PassesOwn (model X.prog X.w) X.A X.env X.xe)(hc:PT X c tc)(hb:PSs X body tb):PS X (.While c body [] pos) (zq9 tc tb):=by
 intro pins s σ H D I h;obtain ⟨W,⟨m0,w0⟩,turn⟩:=h;refine wpAny_While (codeAny_whileLoop (fun n s'=>∃σ' H',Inv X pins σ' H' s'/\W n σ' H') ?_ m0 ⟨σ,H,I,w0⟩);rintro n s1 ⟨σ1,H1,I1,w1⟩;refine ybN hp (thn (hc pins s1 σ1 H1 _ I1 (turn n σ1 H1 w1)) fun b s2 ⟨H2,I2,q2⟩=>?_)
 cases b with
 | true =>
  obtain ⟨N,hN,q2⟩:=q2;rw [if_pos rfl];refine ybN hp (thn (hb pins s2 σ1 H2 _ I2 q2) fun f s3 q3=>?_)
  cases f with
  | next =>
   obtain ⟨σ3,H3,I3,n3⟩:=q3;obtain ⟨m',hm,w3⟩:=hN σ3 H3 n3;exact ⟨m',hm,σ3,H3,I3,w3⟩
  | cont =>
   obtain ⟨σ3,H3,I3,n3⟩:=q3;obtain ⟨m',hm,w3⟩:=hN σ3 H3 n3;exact ⟨m',hm,σ3,H3,I3,w3⟩
  | brk=>exact q3
  | ret v=>exact q3
 | false =>
  rw [if_neg yaP];exact ycN ⟨σ1,H2,I2,q2⟩
end
structure It where
 go:Nat->Hp->Prop
 yld:Nat->Hp->V->Hp->Prop
 stop:Nat->Hp->Prop
noncomputable def zmi(X:Cx)(pins:Z3)(H:Hp)(b:Addr):Prop :=
 H b=none/\b≠X.env.locals/\b ∉ X.fs/\(b∈X.ex\/X.s₀.heap.objs.size<=b)/\(∀x c,X.env.cells.lookup x=some c->c≠b)/\∀p∈X.pn++pins,p.1≠b
def Inv.fpOk(I:Inv X pins σ H s)(hb:s.heap.objs.size<=b)(hn:H' b=none):zmi X pins H' b:=by
 refine ⟨hn,ya6 (yap I.lt hb),I.nofs hb,.inr (yak I.sz hb),fun x c e z=>?_,fun p hp z=>?_⟩
 ·obtain ⟨v,q⟩:=I.cell x c e;exact absurd (yap q.lt (by rw [z];exact hb)) (ya5 _)
 ·exact absurd (yap (yar (I.pin p hp).1) (by rw [z];exact hb)) (ya5 _)
structure Turn(P:Program)(w:World)(K:PySem.W.Frag)(tg:Expr)(J:It)(fp:List Addr)(it:Addr)(tn:Nat->Heap->Prop):Prop where
 mem:it∈fp
 obj:∀i h,tn i h->∀b∈fp,∃o,h.get? b=some o/\∀v,o.data≠.cell v
 keep:∀i h h',tn i h->(∀b∈fp,∀o,h.get? b=some o->h'.get? b=some o)->tn i h'
 item:∀(X:Cx),X.prog=P->X.w=w->X.K=K->X.calm=true->∀(i:Nat) (pins:Z3) (s:Shared) (σ:St) (H:Hp) (E:Z5),Inv X pins σ H s->(∀b∈fp,zmi X pins H b)->tn i s.heap->J.go i H →
  wpAny (model P w) X.A (pyNext (.ref it)) (fun r s1=>∃u,r=some u ∧
   wpAny (model P w) X.A (letOwnedTupleGo tg (.ref it) u) (fun _ s2=>∃x H',Inv X pins σ H' s2/\zbr x u/\J.yld i H x H'/\tn (i+1) s2.heap/\∀b∈fp,H' b=none) E s1) E s
 done:∀(X:Cx),X.prog=P->X.w=w->X.K=K->X.calm=true->∀(i:Nat) (pins:Z3) (s:Shared) (σ:St) (H:Hp) (E:Z5),Inv X pins σ H s->(∀b∈fp,zmi X pins H b)->tn i s.heap->J.stop i H →
  wpAny (model P w) X.A (pyNext (.ref it)) (fun r s1=>r=none/\Inv X pins σ H s1) E s
 self:∀(A:Around) (i:Nat) (s:Shared) (Q:Z5) (E:Z5),tn i s.heap->Q (.ref it) s->wpAny (model P w) A (pyIter (.ref it)) Q E s
noncomputable abbrev TI:=St->Hp->(It->Hp->Prop)->Prop
noncomputable def PIE(X:Cx)(pins:Z3)(σ:St)(tg:Expr)(R:It->Hp->Prop)(itv:Value)(s2:Shared):Prop :=
 ∃(it:Addr) (fp:List Addr) (tn:Nat->Heap->Prop) (J:It) (H':Hp),itv=.ref it/\Inv X pins σ H' s2/\Turn X.prog X.w X.K tg J fp it tn/\tn 0 s2.heap/\(∀b∈fp,zmi X pins H' b)/\R J H'
noncomputable def PI(X:Cx)(tg iter:Expr)(wi:TI):Prop :=
 ∀(pins:Z3) (s:Shared) (σ:St) (H:Hp) (R:It->Hp->Prop),Inv X pins σ H s->wi σ H R →
  wpAny (model X.prog X.w) X.A (eval iter X.env) (fun v s1=>wpAny (model X.prog X.w) X.A (pyIter v) (PIE X pins σ tg R) X.xe s1) X.xe s
def zqk (ho : s.heap.get? it = some o) (hc : o.cls = .type n) (hd : o.data = .fields vs)
    (hn : ["enumerate", "zip", "dict_itemiterator", "dict_reverseitemiterator", "odict_iterator", "itertools.zip_longest", "itertools.pairwise"].contains n = false) (hQ : Q () s) : wpAny M A (letOwnedTupleGo tg (.ref it) u) Q E s := by
  unfold letOwnedTupleGo
  cases tg <;> first
    | exact yae hQ
    | (cases u <;> first
        | exact yae hQ
        | (refine yaa (wpAny_load ho ?_)
           rw [hc, hd];show wpAny M A (if (["enumerate", "zip", "dict_itemiterator", "dict_reverseitemiterator", "odict_iterator", "itertools.zip_longest", "itertools.pairwise"].contains n && vs[0]? == some (rawInt _)) = true then _ else _) Q E s;rw [if_neg (by intro h; rw [hn, Bool.false_and] at h; cases h)]
           exact yae hQ))
noncomputable def Itl(K:PySem.W.Frag)(a:Addr):It :=
 ⟨fun i H=>∃xs x,SqL K H a xs/\xs[i]?=some x,fun i H x H'=>H'=H/\∀xs,SqL K H a xs->xs[i]?=some x,fun i H=>∃xs,SqL K H a xs/\xs.length<=i⟩
noncomputable def Itt(K:PySem.W.Frag)(a:Addr):It :=
 ⟨fun i H=>∃xs x,SqT K H a xs/\xs[i]?=some x,fun i H x H'=>H'=H/\∀xs,SqT K H a xs->xs[i]?=some x,fun i H=>∃xs,SqT K H a xs/\xs.length<=i⟩
noncomputable def Itr(lo:Int)(n:Nat):It:=⟨fun i _=>i<n,fun i H x H'=>H'=H/\x=.int (lo+i),fun i _=>n<=i⟩
theorem zkm{P:Program}{K:PySem.W.Frag}(a it:Addr):Turn P w K tg (Itl K a) [it] it (fun i h=>h.IsListIter it a i) where
 mem:=by simp
 obj:=fun i h st b hb=>by
  have e:b=it:=by simpa using hb
  subst e;obtain ⟨o,e,c,d⟩:=st;exact ⟨o,e,fun v z=>by rw [d] at z;cases z⟩
 keep:=fun i h h' st k=>st.at fun o e=>k it (by simp) o e
 item:=by
  intro X hP hw hK hc i pins s σ H E I hf st hg;subst hP hw hK;obtain ⟨xs,x,hq,hx⟩:=hg;obtain ⟨its,rv,p,hz⟩:=I.list hq;obtain ⟨u,hu,ru⟩:=rv.get hx;obtain ⟨f0,f1,f2,f3,f4,f5⟩:=hf it (by simp);refine wpAny_pyNext_list_item st p.isList (x:=u) (by simpa using hu) fun h' st' sb=>?_
  have I1:Inv X pins σ H { s with heap:=h' }:=I.turned (t':=s.toks) (fun b o hb e=>(sb.2 b hb).trans e) f0 f1 f3 f4 f5;obtain ⟨o,e,c,d⟩:=id st';exact ⟨u,rfl,zqk (s:={ s with heap:=h' }) e c d (by decide) ⟨x,H,I1,ru,⟨rfl,fun ys hy=>by rw [I.list_inj hy hq];exact hx⟩,st',fun b hb=>(hf b hb).1⟩⟩
 done:=by
  intro X hP hw hK hc i pins s σ H E I hf st hg;subst hP hw hK;obtain ⟨xs,hq,hx⟩:=hg;obtain ⟨its,rv,p,hz⟩:=I.list hq;obtain ⟨f0,f1,f2,f3,f4,f5⟩:=hf it (by simp);have hl:=rv.length;exact wpAny_pyNext_list_end (I.ok.hd hc) st p.isList (by simp;omega) fun h' eb=>⟨rfl,I.turned (t':=s.toks) (fun b o hb e=>eb b o hb e) f0 f1 f3 f4 f5⟩
 self:=fun _ _ _ _ _ st h=>wpAny_pyIter_listiter st h
def zjv{P:Program}{K:PySem.W.Frag}(a it:Addr):Turn P w K tg (Itt K a) [it] it (fun i h=>h.IsTupleIter it a i) where
 mem:=by simp
 obj:=fun i h st b hb=>by
  have e:b=it:=by simpa using hb
  subst e;obtain ⟨o,e,c,d⟩:=st;exact ⟨o,e,fun v z=>by rw [d] at z;cases z⟩
 keep:=fun i h h' st k=>st.at fun o e=>k it (by simp) o e
 item:=by
  intro X hP hw hK hc i pins s σ H E I hf st hg;subst hP hw hK;obtain ⟨xs,x,hq,hx⟩:=hg;obtain ⟨its,rv,p,hz⟩:=I.tuple hq;obtain ⟨u,hu,ru⟩:=rv.get hx;obtain ⟨f0,f1,f2,f3,f4,f5⟩:=hf it (by simp);refine wpAny_pyNext_tuple_item st (show s.heap.IsTuple a its.toArray from p) (x:=u) (by simpa using hu) fun h' st' sb=>?_
  have I1:Inv X pins σ H { s with heap:=h' }:=I.turned (t':=s.toks) (fun b o hb e=>(sb.2 b hb).trans e) f0 f1 f3 f4 f5;obtain ⟨o,e,c,d⟩:=id st';exact ⟨u,rfl,zqk (s:={ s with heap:=h' }) e c d (by decide) ⟨x,H,I1,ru,⟨rfl,fun ys hy=>by rw [I.tuple_inj hy hq];exact hx⟩,st',fun b hb=>(hf b hb).1⟩⟩
 done:=by
  intro X hP hw hK hc i pins s σ H E I hf st hg;subst hP hw hK;obtain ⟨xs,hq,hx⟩:=hg;obtain ⟨its,rv,p,hz⟩:=I.tuple hq;obtain ⟨f0,f1,f2,f3,f4,f5⟩:=hf it (by simp);have hl:=rv.length;exact wpAny_pyNext_tuple_end (I.ok.hd hc) st (show s.heap.IsTuple a its.toArray from p) (by simp;omega) fun h' eb=>⟨rfl,I.turned (t':=s.toks) (fun b o hb e=>eb b o hb e) f0 f1 f3 f4 f5⟩
 self:=fun _ _ _ _ _ st h=>wpAny_pyIter_tupleiter st h
theorem zjw{P:Program}{K:PySem.W.Frag}(it:Addr)(lo:Int)(n:Nat):Turn P w K tg (Itr lo n) [it] it (fun i h=>IsRangeIter h it (lo+(i:Nat)*1) ((n:Int)-(i:Nat)) 1) where
 mem:=by simp
 obj:=fun i h st b hb=>by
  have e:b=it:=by simpa using hb
  subst e
  exact ⟨_,st,fun v z=>by
   have z':Data.fields _=Data.cell v:=z
   cases z'⟩
 keep:=fun i h h' st k=>k it (by simp) _ st
 item:=by
  intro X hP hw hK hc i pins s σ H E I hf st hg;subst hP hw hK;obtain ⟨f0,f1,f2,f3,f4,f5⟩:=hf it (by simp);have W:=Walks.range (prog:=X.prog) (w:=X.w) (I.ok.hd hc) it lo 1 n;refine W.item i s _ _ hg st fun v h' tk hv st' kk=>?_
  obtain ⟨t,rfl⟩:=hv;have I1:Inv X pins σ H { s with heap:=h',toks:=tk }:=I.turned (fun b o hb e=>kk b o (by simpa using hb) e) f0 f1 f3 f4 f5;refine ⟨_,rfl,zqk (s:={ s with heap:=h',toks:=tk }) (n:="range_iterator") st' rfl rfl (by decide) ⟨.int (lo+i),H,I1,⟨t,?_⟩,⟨rfl,rfl⟩,st',fun b hb=>(hf b hb).1⟩⟩;rw [Int.mul_one]
 done:=by
  intro X hP hw hK hc i pins s σ H E I hf st hg;subst hP hw hK;obtain ⟨f0,f1,f2,f3,f4,f5⟩:=hf it (by simp);exact wpAny_pyNext_range_end (I.ok.hd hc) st (by have:n<=i:=hg;omega) fun h' eb=>⟨rfl,I.turned (t':=s.toks) (fun b o hb e=>eb b o hb e) f0 f1 f3 f4 f5⟩
 self:=fun _ _ _ _ _ st h=>wpAny_pyIter_rangeiter st h
section
variable{X:Cx}{tg:Expr}
noncomputable def zvq(K:PySem.W.Frag)(tl:TE):TI:=fun σ H R=>tl σ H fun x H1=>∃a,x=.ref a/\(∃xs,SqL K H1 a xs)/\R (Itl K a) H1
noncomputable def zzz(K:PySem.W.Frag)(tl:TE):TI:=fun σ H R=>tl σ H fun x H1=>∃a,x=.ref a/\(∃xs,SqT K H1 a xs)/\R (Itt K a) H1
def zpC(hl:PE X l tl):PI X tg l (zvq X.K tl):=by
 intro pins s σ H R I h;refine thn (hl pins s σ H _ I h) fun v s1 ⟨x,H1,I1,r1,q1⟩=>?_
 obtain ⟨a,e,⟨xs,hq⟩,q⟩:=q1;subst e;cases r1;obtain ⟨its,rv,p,hz⟩:=I1.list hq;refine ycp p.isList ?_;refine ⟨s1.heap.objs.size,[s1.heap.objs.size],_,_,H1,rfl,I1.kept (t':=s1.toks) fun b o e=>yag _ e,zkm a _,⟨_,yao _ rfl,rfl,rfl⟩,fun b hb=>?_,q⟩
 have e:b=s1.heap.objs.size:=by simpa using hb
 subst e;exact I1.fpOk (yaj _) (I1.hok.fresh (yaj _))
def zr7(hl:PE X l tl):PI X tg l (zzz X.K tl):=by
 intro pins s σ H R I h;refine thn (hl pins s σ H _ I h) fun v s1 ⟨x,H1,I1,r1,q1⟩=>?_
 obtain ⟨a,e,⟨xs,hq⟩,q⟩:=q1;subst e;cases r1;obtain ⟨its,rv,p,hz⟩:=I1.tuple hq;refine ybI (show s1.heap.IsTuple a its.toArray from p) ?_;refine ⟨s1.heap.objs.size,[s1.heap.objs.size],_,_,H1,rfl,I1.kept (t':=s1.toks) fun b o e=>yag _ e,zjv a _,⟨_,yao _ rfl,rfl,rfl⟩,fun b hb=>?_,q⟩
 have e:b=s1.heap.objs.size:=by simpa using hb
 subst e;exact I1.fpOk (yaj _) (I1.hok.fresh (yaj _))
theorem ziL{pins:Z3}{σ:St}{H:Hp}{s:Shared}{R:It->Hp->Prop}{E:Z5}{lo hi:Int}{t u v:Tok}{tk:Nat}(I:Inv X pins σ H s)(h1:-(2 ^ 62)<=lo)(h2:lo<2 ^ 62)(h3:-(2 ^ 62)<=hi)(h4:hi<2 ^ 62)
  (q:R (Itr lo (hi-lo).toNat) H):wpAny (model X.prog X.w) X.A (pyIter (.ref s.heap.objs.size)) (PIE X pins σ tg R) E { s with heap:=s.heap.push { cls:=.type "range",data:=.fields #[.int lo t,.int hi u,.int 1 v] },toks:=tk }:=by
 refine wpAny_pyIter_range (IsRange.new ..) (small_one h1 h2 h3 h4) ?_;have I1:Inv X pins σ H { s with heap:=s.heap.push { cls:=.type "range",data:=.fields #[.int lo t,.int hi u,.int 1 v] },toks:=tk }:=I.kept fun b o e=>yag _ e
 refine ⟨(s.heap.push { cls:=.type "range",data:=.fields #[.int lo t,.int hi u,.int 1 v] }).objs.size,[(s.heap.push { cls:=.type "range",data:=.fields #[.int lo t,.int hi u,.int 1 v] }).objs.size],_,_,H,rfl,
  I1.kept (t':=tk) fun b o e=>yag _ e,zjw _ lo (hi-lo).toNat,?_,fun b hb=>?_,q⟩
 ·have e1:lo+((0:Nat):Int)*1=lo:=by simp
  have e2:(((hi-lo).toNat:Nat):Int)-((0:Nat):Int)=Builtin.Range.rangeSize lo hi 1:=by rw [rangeSize_one];split<;>omega
  show IsRangeIter _ _ (lo+((0:Nat):Int)*1) ((((hi-lo).toNat:Nat):Int)-((0:Nat):Int)) 1;rw [e1,e2];exact yao _ rfl
 ·have e:b=(s.heap.push { cls:=.type "range",data:=.fields #[.int lo t,.int hi u,.int 1 v] }).objs.size:=by simpa using hb
  subst e;exact I1.fpOk (yaj _) (I1.hok.fresh (yaj _))
noncomputable def zvp(ta:TA):TI:=fun σ H R=>ta σ H fun vs H1=>∃j:Int,vs=[.int j]/\-(2 ^ 62)<=j/\j<2 ^ 62/\R (Itr 0 j.toNat) H1
noncomputable def zvo(ta:TA):TI:=fun σ H R=>ta σ H fun vs H1=>∃i j:Int,vs=[.int i,.int j]/\(-(2 ^ 62)<=i/\i<2 ^ 62/\-(2 ^ 62)<=j/\j<2 ^ 62)/\R (Itr i (j-i).toNat) H1
theorem zkX{a:Expr}{ta:TA}{p pos:Pos}(hg:Gl X "range")(hm:X.mg "range" = none)(ha:PA X [a] ta)(hs:starEach [a] X.env=[(false,eval a X.env)]:=by rfl):PI X tg (.Call (.Name "range" p) [a] [] pos) (zvp ta):=by
 intro pins s σ H R I h;refine Call_ (zeu I hg hm boot_range (ya7 (thn (ha pos pins s σ H _ I h) fun us s1 ⟨vs,H1,I1,r1,q1⟩=>?_) hs rfl));obtain ⟨j,e,q1,q2,q⟩:=q1;subst e
 cases r1 with
 | cons r rr =>
  cases rr;obtain ⟨t,rfl⟩:=r;exact call_range_1 (ziL I1 (by omega) (by omega) q1 q2 (by simpa using q))
def zkW{a b:Expr}{ta:TA}{p pos:Pos}(hg:Gl X "range")(hm:X.mg "range" = none)(ha:PA X [a,b] ta)(hs:starEach [a,b] X.env=[(false,eval a X.env),(false,eval b X.env)]:=by rfl)(hs2:starEach [b] X.env=[(false,eval b X.env)]:=by rfl) :
  PI X tg (.Call (.Name "range" p) [a,b] [] pos) (zvo ta):=by
 intro pins s σ H R I h;refine Call_ (zeu I hg hm boot_range (ya7 (thn (ha pos pins s σ H _ I h) fun us s1 ⟨vs,H1,I1,r1,q1⟩=>?_) (by rw [hs,hs2]) (by rw [hs2];rfl)));obtain ⟨i,j,e,⟨q1,q2,q3,q4⟩,q⟩:=q1;subst e
 cases r1 with
 | cons r rr =>
  cases rr with
  | cons r' rr =>
   cases rr;obtain ⟨t,rfl⟩:=r;obtain ⟨t',rfl⟩:=r';exact call_range_2 (ziL I1 q1 q2 q3 q4 q)
noncomputable def zyG(wi:TI)(g:TG)(tb:TS):TS:=fun D σ H=>wi σ H fun J H1=>∃W:Nat->Nat->St->Hp->Prop,(∃m,W 0 m σ H1)/\∀i m σ H,W i m σ H →
 (J.stop i H/\D.nx σ H)\/(J.go i H/\∃N:St->Hp->Prop,(∀σ' H',N σ' H'->∃m',m'<m/\W (i+1) m' σ' H')/\∀x H',J.yld i H x H'->g x σ H' fun σ2 H2=>tb { D with nx:=N,ct:=N,bk:=D.nx } σ2 H2)
noncomputable def zha(fp:List Addr)(h:Heap):List (Addr×Obj):=fp.filterMap fun b=>(h.get? b).map fun o=>(b,o)
def zdp(hb:b∈fp)(e:h.get? b=some o):(b,o)∈zha fp h:=ybV.mpr ⟨b,hb,by rw [e];rfl⟩
def zk7(hp:p∈zha fp h):p.1∈fp/\h.get? p.1=some p.2:=by
 obtain ⟨b,hb,e⟩:=ybV.mp hp
 cases q:h.get? b with
 | none=>rw [q] at e;cases e
 | some o =>
  rw [q] at e;have e':(b,o)=p:=Option.some.inj e;subst e';exact ⟨hb,q⟩
def Inv.pinned(I:Inv X pins σ H s)(hf:∀b∈fp,zmi X pins H b)(ho:∀b∈fp,∃o,s.heap.get? b=some o/\∀v,o.data≠.cell v):Inv X (pins++zha fp s.heap) σ H s :=
 I.pins_of fun p hp=>(ya3.mp hp).elim (fun z=>I.pin p (yaJ _ z)) fun z=>by
  obtain ⟨hb,e⟩:=zk7 z;obtain ⟨f0,f1,f2,_⟩:=hf p.1 hb;obtain ⟨o,e',d⟩:=ho p.1 hb;rw [e] at e';cases e';exact ⟨e,f0,f1,f2,d⟩
def Inv.unpinned(I:Inv X (pins++pl) σ H s):Inv X pins σ H s:=I.pins_of fun p hp=>I.pin p (yaJ _ (ycD _ hp))
def zr5{iter:Expr}{body:List Stmt}{wi:TI}{g:TG}{tb:TS}{pos:Pos}(hp:PassesOwn (model X.prog X.w) X.A X.env X.xe)(hc:X.calm=true)(hi:PI X tg iter wi)(hg:PG X tg g)(hb:PSs X body tb)
  (hs:∀x,foldedSetIterable iter X.env x=pure x:=by intro _;rfl):PS X (.For tg iter body [] pos) (zyG wi g tb):=by
 intro pins s σ H D I h;refine wpAny_For (thn (hi pins s σ H _ I h) fun v s1 h1=>thn h1 fun itv s2 h2=>?_) hs;obtain ⟨it,fp,tn,J,H2,e,I2,T,st2,f2,W,⟨m0,w0⟩,turn⟩:=h2;subst e;have stat:∀{H':Hp},(∀b∈fp,H' b=none)->∀b∈fp,zmi X pins H' b:=fun hn b hb=>⟨hn b hb,(f2 b hb).2⟩
 refine codeAny_forLoop_any (fun n s'=>∃i σ' H',Inv X pins σ' H' s'/\tn i s'.heap/\(∀b∈fp,H' b=none)/\W i n σ' H') ?_ m0 ⟨0,σ,H2,I2,st2,fun b hb=>(f2 b hb).1,w0⟩;rintro n s3 ⟨i,σ3,H3,I3,st3,fr3,w3⟩
 rcases turn i n σ3 H3 w3 with ⟨stop,qn⟩ | ⟨go,N,hN,step⟩
 ·refine ybN hp (thn (T.done X rfl rfl rfl hc i pins s3 σ3 H3 X.xe I3 (stat fr3) st3 stop) fun r s4 ⟨hr,I4⟩=>?_);subst hr;exact ycN ⟨σ3,H3,I4,qn⟩
 ·refine ybN hp (thn (T.item X rfl rfl rfl hc i pins s3 σ3 H3 X.xe I3 (stat fr3) st3 go) fun r s4 ⟨u,hr,h4⟩=>?_);subst hr;refine ybN hp (thn h4 fun _ s5 ⟨x,H5,I5,r5,y5,st5,fr5⟩=>?_);have I5':=I5.pinned (stat fr5) (T.obj _ _ st5);refine ybN hp (thn (hg _ s5 σ3 H5 x u _ I5' r5 (step x H5 y5)) fun _ s6 ⟨σ6,H6,I6,q6⟩=>?_);refine ybN hp (thn (hb _ s6 σ6 H6 _ I6 q6) fun f s7 q7=>?_)
  have again:∀{σ7:St} {H7:Hp},Inv X (pins++zha fp s5.heap) σ7 H7 s7->N σ7 H7->∃m,m<n/\∃i σ' H',Inv X pins σ' H' s7/\tn i s7.heap/\(∀b∈fp,H' b=none)/\W i m σ' H':=fun {σ7 H7} I7 n7=>by
   obtain ⟨m',hm,w7⟩:=hN σ7 H7 n7;refine ⟨m',hm,i+1,σ7,H7,I7.unpinned,T.keep _ _ _ st5 fun b hb o e=>(I7.pin (b,o) (yaJ _ (yaJ _ (zdp hb e)))).1,fun b hb=>?_,w7⟩;obtain ⟨o,e,d⟩:=T.obj _ _ st5 b hb;exact (I7.pin (b,o) (yaJ _ (yaJ _ (zdp hb e)))).2.1
  cases f with
  | next=>obtain ⟨σ7,H7,I7,n7⟩:=q7;exact again I7 n7
  | cont=>obtain ⟨σ7,H7,I7,n7⟩:=q7;exact again I7 n7
  | brk=>obtain ⟨σ7,H7,I7,q7⟩:=q7;exact ⟨σ7,H7,I7.unpinned,q7⟩
  | ret v=>obtain ⟨x7,σ7,H7,I7,r7,q7⟩:=q7;exact ⟨x7,σ7,H7,I7.unpinned,r7,q7⟩
end
noncomputable abbrev R2:=V->V->Hp->VK->Prop
noncomputable def OpR(X:Cx)(f:Value->Value->Sem Value)(r:R2):Prop :=
 ∀(pins:Z3) (s:Shared) (σ:St) (H:Hp) (x y:V) (v u:Value) (Q:VK),Inv X pins σ H s->zbr x v->zbr y u->r x y H Q →
  wpAny (model X.prog X.w) X.A (f v u) (EP X pins σ Q) X.xe s
noncomputable def UnR(X:Cx)(f:Value->Sem Value)(r:V->Hp->VK->Prop):Prop :=
 ∀(pins:Z3) (s:Shared) (σ:St) (H:Hp) (x:V) (v:Value) (Q:VK),Inv X pins σ H s->zbr x v->r x H Q →
  wpAny (model X.prog X.w) X.A (f v) (EP X pins σ Q) X.xe s
noncomputable def zdw(X:Cx)(f:Value)(r:List V->Hp->VK->Prop):Prop :=
 ∀(pins:Z3) (s:Shared) (σ:St) (H:Hp) (xs:List V) (us:List Value) (Q:VK),Inv X pins σ H s->Vals xs us->r xs H Q →
  wpAny (model X.prog X.w) X.A (call f us) (EP X pins σ Q) X.xe s
noncomputable def tOp(r:R2)(ta tb:TE):TE:=fun σ H Q=>ta σ H fun x H1=>tb σ H1 fun y H2=>r x y H2 Q
noncomputable def tUn(r:V->Hp->VK->Prop)(ta:TE):TE:=fun σ H Q=>ta σ H fun x H1=>r x H1 Q
noncomputable def rI(C:Int->Int->Prop)(g:Int->Int->V):R2:=fun x y H Q=>∃i j,x=.int i/\y=.int j/\C i j/\Q (g i j) H
noncomputable def rI0(g:Int->Int->V):R2:=fun x y H Q=>∃i j,x=.int i/\y=.int j/\Q (g i j) H
noncomputable def rU(g:Int->V):V->Hp->VK->Prop:=fun x H Q=>∃i,x=.int i/\Q (g i) H
section
variable{X:Cx}{a b c:Expr}{ta tb tc:TE}{pos:Pos}
def zvC(ha:PE X a ta)(hb:PE X b tb){pins:Z3}{s:Shared}{σ:St}{H:Hp}{R:V->V->Hp->Prop}(I:Inv X pins σ H s)
  (h:ta σ H fun x H1=>tb σ H1 fun y H2=>R x y H2) {Q:Z5} {f:Value->Value->Sem Value}
  (hf:∀v u s2 x y H2,Inv X pins σ H2 s2->zbr x v->zbr y u->R x y H2->wpAny (model X.prog X.w) X.A (f v u) Q X.xe s2) :
  wpAny (model X.prog X.w) X.A (eval a X.env) (fun v s₁=>wpAny (model X.prog X.w) X.A (eval b X.env) (fun u s₂=>wpAny (model X.prog X.w) X.A (f v u) Q X.xe s₂) X.xe s₁) X.xe s:=by
 refine thn (ha pins s σ H _ I h) fun v s1 ⟨x,H1,I1,r1,q1⟩=>?_
 refine thn (hb pins s1 σ H1 _ I1 q1) fun u s2 ⟨y,H2,I2,r2,q2⟩=>?_
 exact hf v u s2 x y H2 I2 r1 r2 q2
def zsa(ho:OpR X (binaryOp op) r)(ha:PE X a ta)(hb:PE X b tb):PE X (.BinOp a op b pos) (tOp r ta tb):=by
 intro pins s σ H Q I h;exact wpAny_BinOp (zvC ha hb I h fun v u s2 x y H2 I2 rx ry q=>ho pins s2 σ H2 x y v u Q I2 rx ry q)
def zuM(ho:UnR X (unaryOp op) r)(ha:PE X a ta):PE X (.UnaryOp op a pos) (tUn r ta):=by
 intro pins s σ H Q I h;exact UnaryOp_ (thn (ha pins s σ H _ I h) fun v s1 ⟨x,H1,I1,r1,q1⟩=>ho pins s1 σ H1 x v Q I1 r1 q1)
def opI{f:Value->Value->Sem Value}{C:Int->Int->Prop}{g:Int->Int->Int}
  (rule:∀(i j:Int) (t u:Tok) (s:Shared) (Q:Z5) (E:Z5),C i j->Q (.int (g i j) s.toks) { s with toks:=s.toks+1 }->wpAny (model X.prog X.w) X.A (f (.int i t) (.int j u)) Q E s) :
  OpR X f (rI C fun i j=>.int (g i j)):=by
 intro pins s σ H x y v u Q I rx ry h;obtain ⟨i,j,rfl,rfl,hc,q⟩:=h;obtain ⟨t,rfl⟩:=rx;obtain ⟨t',rfl⟩:=ry;exact rule i j t t' s _ _ hc ⟨.int (g i j),H,I.tok _,⟨_,rfl⟩,q⟩
def zwQ{f:Value->Value->Sem Value}{g:Int->Int->Int}
  (rule:∀(i j:Int) (t u:Tok) (s:Shared) (Q:Z5) (E:Z5),Q (.int (g i j) s.toks) { s with toks:=s.toks+1 }->wpAny (model X.prog X.w) X.A (f (.int i t) (.int j u)) Q E s) :
  OpR X f (rI0 fun i j=>.int (g i j)):=by
 intro pins s σ H x y v u Q I rx ry h;obtain ⟨i,j,rfl,rfl,q⟩:=h;obtain ⟨t,rfl⟩:=rx;obtain ⟨t',rfl⟩:=ry;exact rule i j t t' s _ _ ⟨.int (g i j),H,I.tok _,⟨_,rfl⟩,q⟩
def ztM{f:Value->Value->Sem Value}{g:Int->Int->Bool}
  (rule:∀(i j:Int) (t u:Tok) (s:Shared) (Q:Z5) (E:Z5),Q (.bool (g i j)) s->wpAny (model X.prog X.w) X.A (f (.int i t) (.int j u)) Q E s) :
  OpR X f (rI0 fun i j=>.bl (g i j)):=by
 intro pins s σ H x y v u Q I rx ry h;obtain ⟨i,j,rfl,rfl,q⟩:=h;obtain ⟨t,rfl⟩:=rx;obtain ⟨t',rfl⟩:=ry;exact rule i j t t' s _ _ ⟨.bl (g i j),H,I,rfl,q⟩
noncomputable def zzO(i j:Int):Prop:=0<j/\j<1073741824
noncomputable def zvS(i j:Int):Prop:=(-(2 ^ 64)<i/\i<2 ^ 64)\/(-(2 ^ 64)<j/\j<2 ^ 64)
def zvS.ok(h:zvS i j):IntMulOk i j:=by
 rcases h with ⟨h1,h2⟩ | ⟨h1,h2⟩
 ·exact .of_left (intBits_le_64 h1 h2)
 ·exact .of_right (intBits_le_64 h1 h2)
def zsq:OpR X (binaryOp .Add) (rI0 fun i j=>.int (i+j)):=zwQ fun _ _ _ _ _ _ _ q=>add_int q
def zsl:OpR X (binaryOp .Sub) (rI0 fun i j=>.int (i-j)):=zwQ fun _ _ _ _ _ _ _ q=>sub_int q
def zsm:OpR X (binaryOp .Mult) (rI zvS fun i j=>.int (i*j)):=opI fun _ _ _ _ _ _ _ hc q=>mul_int q hc.ok
theorem zpI:OpR X (binaryOp .FloorDiv) (rI zzO fun i j=>.int (i / j)):=opI fun i j _ _ _ _ _ hc q=>by
 have h1:(0:Int)<j:=hc.1;have h2:j<1073741824:=hc.2;exact floordiv_int (by omega) (by rw [Int.fdiv_eq_ediv_of_nonneg i (by omega)];exact q) (.inl (PyProof.noPylong_small (by omega)))
theorem zsn:OpR X (binaryOp .Mod) (rI (fun _ j=>0<j) fun i j=>.int (i % j)):=opI fun i j _ _ _ _ _ hc q=>by
 have h1:(0:Int)<j:=hc;exact mod_int' (by omega) (by rw [Int.fmod_eq_emod_of_nonneg i (by omega)];exact q)
def unI{f:Value->Sem Value}{g:Int->Int}
  (rule:∀(i:Int) (t:Tok) (s:Shared) (Q:Z5) (E:Z5),Q (.int (g i) s.toks) { s with toks:=s.toks+1 }->wpAny (model X.prog X.w) X.A (f (.int i t)) Q E s) :
  UnR X f (rU fun i=>.int (g i)):=by
 intro pins s σ H x v Q I rx h;obtain ⟨i,rfl,q⟩:=h;obtain ⟨t,rfl⟩:=rx;exact rule i t s _ _ ⟨.int (g i),H,I.tok _,⟨_,rfl⟩,q⟩
def zq3:UnR X (unaryOp .USub) (rU fun i=>.int (-i)):=unI fun _ _ _ _ _ q=>neg_int q
end
section
variable{X:Cx}{a b c:Expr}{ta tb tc:TE}{pos:Pos}
def zoA(I:Inv X pins σ H s)(q:Q (.bl k) H)(e:k=k'):EP X pins σ Q (.bool k') s:=by
 subst e;exact ⟨.bl k,H,I,rfl,q⟩
def zuQ:OpR X (compareOp .Lt) (rI0 fun i j=>.bl (decide (i<j))):=ztM fun _ _ _ _ _ _ _ q=>lt_int q
def zuR:OpR X (compareOp .LtE) (rI0 fun i j=>.bl (decide (i<=j))):=ztM fun _ _ _ _ _ _ _ q=>le_int q
def zuS:OpR X (compareOp .Gt) (rI0 fun i j=>.bl (decide (j<i))):=ztM fun _ _ _ _ _ _ _ q=>gt_int q
def zuT:OpR X (compareOp .GtE) (rI0 fun i j=>.bl (decide (j<=i))):=ztM fun _ _ _ _ _ _ _ q=>ge_int q
def zso:OpR X (compareOp .Is) (fun x y H Q=>y=.non/\Q (.bl (decide (x=.non))) H):=by
 intro pins s σ H x y v u Q I rx ry h;obtain ⟨rfl,q⟩:=h;cases ry;refine is_none_gen (zoA I q ?_)
 cases x<;>first
  | (cases rx;rfl)
  | (obtain ⟨t,rfl⟩:=rx;rfl)
def zpH:OpR X (compareOp .IsNot) (fun x y H Q=>y=.non/\Q (.bl (!decide (x=.non))) H):=by
 intro pins s σ H x y v u Q I rx ry h;obtain ⟨rfl,q⟩:=h;cases ry;refine isnot_none_gen (zoA I q ?_)
 cases x<;>first
  | (cases rx;rfl)
  | (obtain ⟨t,rfl⟩:=rx;rfl)
def zk0(ho:OpR X (compareOp op) r)(ha:PE X a ta)(hb:PE X b tb)(hm:behindInMarks op b=false):PE X (.Compare a [op] [b] pos) (tOp r ta tb):=by
 intro pins s σ H Q I h;exact wpAny_Compare1 (zvC ha hb I h fun v u s2 x y H2 I2 rx ry q=>ho pins s2 σ H2 x y v u Q I2 rx ry q) hm
noncomputable def zoU(t:TE):TT:=fun σ H Q=>t σ H fun x H'=>∃k,x=.bl k/\Q k H'
def zkQ(ho:OpR X (compareOp op) r)(ha:PE X a ta)(hb:PE X b tb)(hm:behindInMarks op b=false):PT X (.Compare a [op] [b] pos) (zoU (tOp r ta tb)):=by
 intro pins s σ H Q I h
 refine wpAny_isTrue_Compare1 (thn (ha pins s σ H _ I h) fun v s1 ⟨x,H1,I1,r1,q1⟩=>thn (hb pins s1 σ H1 _ I1 q1) fun u s2 ⟨y,H2,I2,r2,q2⟩ =>
  thn (ho pins s2 σ H2 x y v u _ I2 r1 r2 q2) fun c s3 ⟨z,H3,I3,r3,k,e,q3⟩=>?_) hm
 subst e;cases r3;exact ybg ⟨H3,I3,q3⟩
noncomputable def zkv(r r':R2)(ta tb tc:TE):TE:=fun σ H Q=>ta σ H fun x H1=>tb σ H1 fun y H2=>r x y H2 fun z H3=>∃k,z=.bl k ∧
 (if k=true then tc σ H3 fun w' H4=>r' y w' H4 Q else Q (.bl false) H3)
def zmX{op op':CmpOp}{r r':R2}(ho:OpR X (compareOp op) r)(ho':OpR X (compareOp op') r')(ha:PE X a ta)(hb:PE X b tb)(hc:PE X c tc)
  (hm:lastMarks [op,op'] [b,c]=false:=by with_unfolding_all rfl):PE X (.Compare a [op,op'] [b,c] pos) (zkv r r' ta tb tc):=by
 intro pins s σ H Q I h
 refine Compare_chain (thn (ha pins s σ H _ I h) fun v s1 ⟨x,H1,I1,r1,q1⟩=>chain_link (thn (hb pins s1 σ H1 _ I1 q1) fun u s2 ⟨y,H2,I2,r2,q2⟩ =>
  thn (ho pins s2 σ H2 x y v u _ I2 r1 r2 q2) fun d s3 ⟨z,H3,I3,r3,k,e,q3⟩=>?_)) hm
 subst e;cases r3;refine ybg ?_
 cases k with
 | false=>exact ite_ff ⟨.bl false,H3,I3,rfl,q3⟩
 | true=>exact ite_tt (chain_last (thn (hc pins s3 σ H3 _ I3 q3) fun w' s4 ⟨z',H4,I4,r4,q4⟩=>ho' pins s4 σ H4 y z' u w' Q I4 r2 r4 q4))
def zmI{op op':CmpOp}{r r':R2}(ho:OpR X (compareOp op) r)(ho':OpR X (compareOp op') r')(ha:PE X a ta)(hb:PE X b tb)(hc:PE X c tc)
  (hm:lastMarks [op,op'] [b,c]=false:=by with_unfolding_all rfl):PT X (.Compare a [op,op'] [b,c] pos) (zoU (zkv r r' ta tb tc)):=by
 intro pins s σ H Q I h
 refine isTrue_chain (thn (ha pins s σ H _ I h) fun v s1 ⟨x,H1,I1,r1,q1⟩=>test_link (thn (hb pins s1 σ H1 _ I1 q1) fun u s2 ⟨y,H2,I2,r2,q2⟩ =>
  thn (ho pins s2 σ H2 x y v u _ I2 r1 r2 q2) fun d s3 ⟨z,H3,I3,r3,k,e,q3⟩=>?_)) hm
 subst e;cases r3;refine ybg ?_
 cases k with
 | false =>
  obtain ⟨k',e',q'⟩:=q3;cases e';exact ite_ff ⟨H3,I3,q'⟩
 | true =>
  refine ite_tt (test_last (thn (hc pins s3 σ H3 _ I3 q3) fun w' s4 ⟨z',H4,I4,r4,q4⟩=>thn (ho' pins s4 σ H4 y z' u w' _ I4 r2 r4 q4) fun d' s5 ⟨z2,H5,I5,r5,k2,e2,q5⟩=>?_));subst e2;cases r5;exact ybg ⟨H5,I5,q5⟩
def zi6:(sizeLine:Nat)<2 ^ 63:=by rw [sizeLine_eq];decide
def zjL:OpR X (binaryOp .Add) (fun x y H Q=>∃i j,x=.str i/\y=.str j/\i.length+j.length<=sizeLine/\Q (.str (i++j)) H):=by
 intro pins s σ H x y v u Q I rx ry h;obtain ⟨i,j,rfl,rfl,hz,q⟩:=h;obtain ⟨t,rfl⟩:=rx;obtain ⟨t',rfl⟩:=ry;exact add_str (fun t' tk=>⟨.str (i++j),H,I.tok _,⟨_,rfl⟩,q⟩) hz
def zeP(r:Vals [x] us):∃u,us=[u]/\zbr x u:=by
 cases r with
 | cons r1 r2=>cases r2;exact ⟨_,rfl,r1⟩
end
structure ObjM(h:Heap)(x dx C:Addr)(mA:Z6):Prop where
 obj:h.get? x=some (PySem.W.instObj C dx)
 ns:h.Ns1 dx mA
 ne:dx≠x
def zlp{h:Heap}{mA:Z6}(n:h.Ns1 dx mA):∃od,h.get? dx=some od/\∀name,PySem.W.lookIn name od=some (mA name):=by
 obtain ⟨o,es,ep,ho,hd,hk,_,hm⟩:=n;refine ⟨o,ho,fun name=>?_⟩;have e:=hm name;unfold nsFind findBy at e;rw [<-Array.find?_toList] at e;unfold PySem.W.lookIn;rw [hd];dsimp only;split
 ·rename_i y q;rw [q] at e;exact congrArg some e
 ·rename_i q;rw [q] at e
  have a:es.toList.any (·.refKey)=false:=by
   rw [yc1];intro y hy;obtain ⟨z,t,hkey⟩:=hk y (Array.mem_toList_iff.mp hy);simp [DictEntry.refKey,hkey]
  have a':¬ es.toList.any (·.refKey)=true:=by rw [a];exact yaP
  rw [if_neg a'];exact congrArg some e
def ObjM.look(I:ObjM h x dx C mA):∃od,PySem.W.InstAt h x (PySem.W.instObj C dx) C (some od)/\∀name,PySem.W.lookIn name od=some (mA name) :=
 let ⟨od,ho,hl⟩:=zlp I.ns
 ⟨od,⟨I.obj,rfl,rfl,ho⟩,hl⟩
section
variable{prog:Program}{w:World}{A:Around}{E:Z5}{s:Shared}{K:PySem.W.Frag}{x dx C f:Addr}{mA:Z6}{name:Str}{v:Value}
def zql{expr:Bool}{Q:Z5}(X:K.In s.heap)(I:ObjM s.heap x dx C mA)(hg:PySem.W.plainGet K C name=true)(hh:PySem.W.hasDictIn K C=true)
  (ha:PySem.W.findIn K (.ref C) name=some none) (hv:mA name=some v) (hv':PySem.W.handedIn v=true) (h:Q v { s with toks:=s.toks+1 }) :
  wpAny (model prog w) A (getAttr (.ref x) name expr) Q E s:=by
 obtain ⟨od,J,hl⟩:=I.look;exact PySem.W.get_value X J (ycO hg).1 (PySem.W.findObj_own hh ha rfl (by rw [hl,hv])) hv' h
def znw(X:K.In s.heap)(I:ObjM s.heap x dx C mA)(hg:PySem.W.plainGet K C name=true)
  (hf:PySem.W.findIn K (.ref C) name=some (some (.ref f))) (ht:PySem.W.isFn K (.ref f)=true) (hv:mA name=none) (h:Q (.ref f,[.ref x]) s) :
  wpAny (model prog w) A (getMethod (.ref x) name pl) Q E s:=by
 obtain ⟨od,J,hl⟩:=I.look;exact PySem.W.method_fn X J (ycO hg).1 (ycO hg).2 hf (ycq.mp ht) (by show (PySem.W.lookIn name od).map (·.isSome)=some false;rw [hl,hv];rfl) h
theorem zpi{ns:List Str}{Q:Unit->Shared->Prop}(X:K.In s.heap)(I:ObjM s.heap x dx C mA)
  (hs:PySem.W.findIn K (.ref C) "__setattr__" = some (some (.builtin "object.__setattr__"))) (hp:PySem.W.plainOver K C=true) (ht:PySem.W.takerIn K C name=some none) (hh:PySem.W.hasDictIn K C=true)
  (hw:PySem.Within mA ns) (hsz:ns.length<=sizeLine)
  (h:∀h',ObjM h' x dx C (fun y=>if y=name then some v else mA y)->Heap.SameBut dx s.heap h'->Q () { s with heap:=h',toks:=s.toks+2 }) :
  wpAny (model prog w) A (setAttr (.ref x) name v) Q E s:=by
 obtain ⟨od,J,hl⟩:=I.look;refine PySem.W.set_plain X J hs (PySem.W.osa_open (s:={ s with toks:=s.toks+1 }) (r:=none) X J hp ht fun b=>?_);obtain ⟨cd,hc,hd'⟩:=PySem.W.any_some hh;have hx:s.heap.get? x=some ⟨.ref C,some dx,.plain,#[]⟩:=I.obj;refine yaa (yae (yaa (yaa (wpAny_loadPart hx (yaa (PySem.W.Looks.here (s:={ s with toks:=s.toks+1 }) (PySem.W.looks_clsIn X hc) ?_))))));rw [hd'];refine yae (a:=some dx) (yaa (yae (yaa ?_)));refine wpAny_nsSet1 (s:={ s with toks:=s.toks+1 }) I.ns fun h' hn2 hs2=>?_
 obtain ⟨oD,esD,epD,hoD,hdD,hcD⟩:=hn2.count (PySem.Within.cons name v hw);refine yaa (wpAny_lookBehind hoD (by rw [hdD];exact pastItsLine_dict (yak hcD (by rw [yan];omega))) ?_);exact yae (h _ ⟨(hs2.2 _ (Ne.symm I.ne)).trans I.obj,hn2,I.ne⟩ hs2)
def znc{R:Result->Shared->Prop}{vs:List Value}{kw:List (Str×Value)}(X:K.In s.heap)(hm:PySem.W.makesIn K C=true)
  (hi:PySem.W.findIn K (.ref C) "__init__" = some (some (.ref f))) (hf:PySem.W.typeIn K (.ref f)=some (.type "function"))
  (h:codeAny (model prog w) (A.under (.builtin "type.__call__" ⟨.ref C::vs,kw⟩)) (.call (.ref f) ⟨.ref (s.heap.objs.size+1)::vs,kw⟩) (PySem.W.InitBack (s.heap.objs.size+1) R)
   { s with heap:=(s.heap.push PySem.W.emptyDict).push (PySem.W.instObj C s.heap.objs.size) }) :
  codeAny (model prog w) A (.call (.ref C) ⟨vs,kw⟩) R s:=by
 obtain ⟨hh,g,d,t,os⟩:=s;exact PySem.W.make_core (PySem.W.makes_of X hm) (PySem.W.looks_findIn X hi) (fun self=>PySem.W.bind_fn X self hf) (.inl rfl) h
end
noncomputable def zdI(f:Str)(v:V):List (Str×V)->List (Str×V)
 | []=>[(f,v)]
 | (g,x)::r=>if g=f then (g,v)::r else (g,x)::zdI f v r
theorem ze5(f g:Str)(v:V):∀fs:List (Str×V),(zdI f v fs).lookup g=if g=f then some v else fs.lookup g
 | []=>by
  show List.lookup g [(f,v)]=_
  by_cases h:g=f
  ·have hb:(g == f)=true:=ycq.mpr h;simp only [List.lookup,hb,if_pos h]
  ·have hb:(g == f)=false:=yaR.mpr h;simp only [List.lookup,hb,if_neg h]
 | (k,x)::r=>by
  have ih:=ze5 f g v r;rw [show zdI f v ((k,x)::r)=(if k=f then (k,v)::r else (k,x)::zdI f v r) from rfl]
  by_cases hk:k=f
  ·rw [if_pos hk]
   by_cases h:g=k
   ·have hb:(g == k)=true:=ycq.mpr h;simp only [List.lookup,hb,if_pos (h.trans hk)]
   ·have hb:(g == k)=false:=yaR.mpr h;simp only [List.lookup,hb,if_neg (fun e:g=f=>h (e.trans hk.symm))]
  ·rw [if_neg hk]
   by_cases h:g=k
   ·have hb:(g == k)=true:=ycq.mpr h;simp only [List.lookup,hb,if_neg (fun e:g=f=>hk (h.symm.trans e))]
   ·have hb:(g == k)=false:=yaR.mpr h;simp only [List.lookup,hb];exact ih
theorem ze8(f:Str)(v:V):∀fs:List (Str×V),f∈(zdI f v fs).map (·.1)/\∀g,g∈fs.map (·.1)->g∈(zdI f v fs).map (·.1)
 | []=>⟨by simp [zdI],fun g h=>by simp at h⟩
 | (k,x)::r=>by
  obtain ⟨i1,i2⟩:=ze8 f v r;rw [show zdI f v ((k,x)::r)=(if k=f then (k,v)::r else (k,x)::zdI f v r) from rfl]
  by_cases hk:k=f
  ·rw [if_pos hk];subst hk;exact ⟨by simp,fun g h=>by simpa using h⟩
  ·rw [if_neg hk];refine ⟨?_,fun g h=>?_⟩
   ·rw [yav];exact yaw _ i1
   ·rw [yav] at h ⊢
    rcases yau.mp h with e | e
    ·exact yau.mpr (.inl e)
    ·exact yaw _ (i2 g e)
theorem ze6(f:Str)(v:V):∀fs:List (Str×V),(zdI f v fs).length<=fs.length+1
 | []=>by simp [zdI]
 | (k,x)::r=>by
  have ih:=ze6 f v r;rw [show zdI f v ((k,x)::r)=(if k=f then (k,v)::r else (k,x)::zdI f v r) from rfl]
  by_cases hk:k=f
  ·rw [if_pos hk,yan,yan];omega
  ·rw [if_neg hk,yan,yan];omega
def zml.some_of(r:zml (some v) o):∃u,o=some u/\zbr v u:=by
 cases o with
 | none=>exact (show False from r).elim
 | some u=>exact ⟨u,rfl,r⟩
def zml.none_of(r:zml none o):o=none:=by
 cases o with
 | none=>rfl
 | some u=>exact (show False from r).elim
def zlG(r:zbr v u):PySem.W.handedIn u=true:=by
 cases v with
 | non=>cases (show u=Value.none from r);rfl
 | bl b=>cases (show u=Value.bool b from r);rfl
 | int i=>obtain ⟨t,e⟩:=(show ∃t,u=Value.int i t from r);cases e;rfl
 | str x=>obtain ⟨t,e⟩:=(show ∃t,u=Value.str x t from r);cases e;rfl
 | byt b=>obtain ⟨t,e⟩:=(show ∃t,u=Value.bytes b t from r);cases e;rfl
 | flt b=>obtain ⟨t,e⟩:=(show ∃t,u=Value.float b t from r);cases e;rfl
 | ref a=>cases (show u=Value.ref a from r);rfl
 | ty n=>cases (show u=Value.type n from r);rfl
section
variable{P:Program}{w:World}{H H':Hp}{h h':Heap}{a C dx:Addr}{fs fs':List (Str×V)}
def zgj(hok:HOk P w H h)(e:H a=some (.ins C dx fs)):∃mA,ObjM h a dx C mA/\(∀f,zml (fs.lookup f) (mA f))/\PySem.Within mA (fs.map (·.1))/\fs.length<=1000/\H dx=some (.own a):=by
 obtain ⟨d,z,ne,ob,mA,n,r,q⟩:=(show zbL P w H h a (.ins C dx fs) from hok a _ e);exact ⟨mA,⟨ob,n,ne⟩,r,q,z,d⟩
end
structure Cls(K:PySem.W.Frag)(C:Addr):Prop where
 pg:PySem.W.plainGet K C Str.empty=true
 hd:PySem.W.hasDictIn K C=true
 po:PySem.W.plainOver K C=true
 sa:PySem.W.findIn K (.ref C) "__setattr__" = some (some (.builtin "object.__setattr__"))
def Cls.get{K:PySem.W.Frag}(c:Cls K C)(f:Str):PySem.W.plainGet K C f=true:=c.pg
noncomputable def zdF(K:PySem.W.Frag)(C:Addr)(f:Str):Prop:=PySem.W.findIn K (.ref C) f=some none
def zdF.taker{K:PySem.W.Frag}(n:zdF K C f):PySem.W.takerIn K C f=some none:=by
 unfold PySem.W.takerIn;rw [show PySem.W.findIn K (.ref C) f=some none from n];rfl
structure Meth(K:PySem.W.Frag)(C:Addr)(m:Str)(f:Addr):Prop where
 at_:PySem.W.findIn K (.ref C) m=some (some (.ref f))
 fn:PySem.W.isFn K (.ref f)=true
 kp:PySem.W.keepIn K (.ref f)=true
section
variable{X:Cx}{pins:Z3}{σ:St}{H:Hp}{s:Shared}{a C dx:Addr}{fs:List (Str×V)}{f:Str}{v:V}{A:Around}{E:Z5}
def zjV(I:Inv X pins σ H s)(e:H a=some (.ins C dx fs))(c:Cls X.K C)(n:zdF X.K C f)(l:fs.lookup f=some v)
  (h:∀u s',Inv X pins σ H s'->zbr v u->Q u s'):wpAny (model X.prog X.w) A (getAttr (.ref a) f b) Q E s:=by
 obtain ⟨mA,O,r,_,_,_⟩:=zgj I.hok e;obtain ⟨u,hu,ru⟩:=zml.some_of (v:=v) (o:=mA f) (by rw [<-l];exact r f);exact zql I.kIn O (c.get f) c.hd n hu (zlG ru) (h u _ (I.tok _) ru)
def zfM(I:Inv X pins σ H s)(e:H a=some (.ins C dx fs))(c:Cls X.K C)(k:Meth X.K C m g)(l:fs.lookup m=none)
  (h:Q (.ref g,[.ref a]) s):wpAny (model X.prog X.w) A (getMethod (.ref a) m pl) Q E s:=by
 obtain ⟨mA,O,r,_,_,_⟩:=zgj I.hok e;have hn:mA m=none:=zml.none_of (by rw [<-l];exact r m);exact znw I.kIn O (c.get m) k.at_ k.fn hn h
def zjB(I:Inv X pins σ H s)(e:H a=some (.ins C dx fs))(c:Cls X.K C)(n:zdF X.K C f)(hl:fs.length<1000)(ry:zbr y u)
  (h:∀s',Inv X pins σ (upd H a (.ins C dx (zdI f y fs))) s'->Q () s'):wpAny (model X.prog X.w) A (setAttr (.ref a) f u) Q E s:=by
 obtain ⟨mA,O,r,wi,_,ho⟩:=zgj I.hok e
 have hz:(fs.map (·.1)).length<=sizeLine:=by rw [yad,sizeLine_eq];omega
 refine zpi I.kIn O c.sa c.po n.taker c.hd wi hz fun h' O' sb=>h _ ?_
 have hd:∃o,h'.get? dx=some o:=let ⟨o,_,_,e',_⟩:=O'.ns;⟨o,e'⟩
 refine I.write (x:=a) (e:=dx) (by rw [e];exact True.intro) (.inr ho) (fun b q hb z=>(sb.2 b hb).trans z) hd ?_;refine ⟨by rw [zao O.ne];exact ho,?_,O.ne,O'.obj,_,O'.ns,fun g=>?_,fun g hg=>?_⟩
 ·have:=ze6 f y fs;omega
 ·show zml ((zdI f y fs).lookup g) (if g=f then some u else mA g);rw [ze5]
  by_cases q:g=f
  ·rw [if_pos q,if_pos q];exact ry
  ·rw [if_neg q,if_neg q];exact r g
 ·by_cases q:g=f
  ·rw [q];exact (ze8 f y fs).1
  ·refine (ze8 f y fs).2 g (wi g fun z=>hg ?_);show (if g=f then some u else mA g)=none;rw [if_neg q];exact z
def Inv.made(I:Inv X pins σ H s):Inv X pins σ (upd (upd H s.heap.objs.size (.own (s.heap.objs.size+1))) (s.heap.objs.size+1) (.ins C s.heap.objs.size []))
  { s with heap:=(s.heap.push PySem.W.emptyDict).push (PySem.W.instObj C s.heap.objs.size) }:=by
 have e1:(s.heap.push PySem.W.emptyDict).get? s.heap.objs.size=some PySem.W.emptyDict:=yao s.heap rfl
 have e2:((s.heap.push PySem.W.emptyDict).push (PySem.W.instObj C s.heap.objs.size)).get? (s.heap.objs.size+1)=some (PySem.W.instObj C s.heap.objs.size):=by
  have:=yao (s.heap.push PySem.W.emptyDict) (o:=PySem.W.instObj C s.heap.objs.size) rfl
  rwa [ya0] at this
 have e3:(s.heap.push PySem.W.emptyDict).Ns s.heap.objs.size (fun _=>none):=⟨PySem.W.emptyDict,#[],_,e1,rfl,(fun e he=>absurd he (by simp)),fun _=>rfl⟩;have I1:=I.laid (a:=s.heap.objs.size) (o:=.own (s.heap.objs.size+1)) (h':=s.heap.push PySem.W.emptyDict) (t':=s.toks) (fun b u q=>yag _ q) (yaj _) ⟨_,e1⟩;refine I1.laid (a:=s.heap.objs.size+1) (o:=.ins C s.heap.objs.size []) (t':=s.toks) (fun b u q=>yag _ q) (Nat.le_of_eq (ya0 _ _)) ?_;have ne:s.heap.objs.size≠s.heap.objs.size+1:=yax (ybF _);refine ⟨by rw [zao ne,zay],yba _,ne,e2,fun _=>none,(Heap.Ns1.of_empty e3).at fun o q=>yag _ q,fun _=>True.intro,fun y hy=>absurd rfl hy⟩
def zqI(hb:attributeBase e f env (eval e env)=eval e env)
  (h:wpAny (model prog w) A (eval e env) (fun o s₁=>wpAny (model prog w) A (getAttr o f true) Q E s₁) E s):wpAny (model prog w) A (eval (.Attribute e f pos) env) Q E s :=
 Attribute_any_ h (by rw [arm_eval_Attribute,hb])
end
noncomputable def zwI(K:PySem.W.Frag)(ta:TE)(f:Str):TE:=fun σ H Q=>ta σ H fun x H1=>∃a C dx fs v,x=.ref a/\H1 a=some (.ins C dx fs)/\Cls K C/\zdF K C f/\fs.lookup f=some v/\Q v H1
noncomputable def zyJ(K:PySem.W.Frag)(ta tv:TE)(f:Str):TS:=fun D σ H=>tv σ H fun y H1=>ta σ H1 fun x H2=>∃a C dx fs,x=.ref a/\H2 a=some (.ins C dx fs)/\Cls K C/\zdF K C f/\fs.length<1000 ∧
 D.nx σ (upd H2 a (.ins C dx (zdI f y fs)))
noncomputable def zxZ(X:Cx)(op:Operator)(rd:V->V->Hp->VK->Prop):Prop :=
 ∀(pins:Z3) (s:Shared) (σ:St) (H:Hp) (x y:V) (u v:Value) (Q:VK),Inv X pins σ H s->zbr x u->zbr y v->rd x y H Q->wpAny (model X.prog X.w) X.A (inplaceOp op u v) (EP X pins σ Q) X.xe s
section
variable{X:Cx}{o e value:Expr}{f:Str}{pos pos' tpos:Pos}{ta tv:TE}
def zhb(he:PE X e ta)(hb:attributeBase e f X.env (eval e X.env)=eval e X.env):PE X (.Attribute e f pos) (zwI X.K ta f):=by
 intro pins s σ H Q I h;refine zqI hb (thn (he pins s σ H _ I h) fun u s1 ⟨x,H1,I1,rx,a,C,dx,fs,v,ex,ea,c,n,l,q⟩=>?_);subst ex;obtain rfl:u=Value.ref a:=rx;exact zjV I1 ea c n l fun u' s2 I2 ru=>⟨v,H1,I2,ru,q⟩
def zoe(ha:PE X o ta)(hv:PE X value tv)(hs:swapsWith value (some (.Attribute o f pos')) pos.line X.env=pure false):PS X (.Assign [.Attribute o f pos'] value pos) (zyJ X.K ta tv f):=by
 intro pins s σ H D I h;refine plainObj_wpAny_Assign_Attribute (thn (hv pins s σ H _ I h) fun u s1 ⟨y,H1,I1,ry,q⟩=>thn (ha pins s1 σ H1 _ I1 q) fun ov s2 ⟨x,H2,I2,rx,a,C,dx,fs,ex,ea,c,n,l,q2⟩=>?_) hs;subst ex;obtain rfl:ov=Value.ref a:=rx;exact zjB I2 ea c n l ry fun s3 I3=>⟨σ,_,I3,q2⟩
noncomputable def zwN:V->V->Hp->VK->Prop:=fun x y H Q=>∃i j,x=.int i/\y=.int j/\Q (.int (i+j)) H
noncomputable def zwM:V->V->Hp->VK->Prop:=fun x y H Q=>∃i j,x=.int i/\y=.int j/\Q (.int (i-j)) H
def zs4:zxZ X .Add zwN:=by
 rintro pins s σ H x y u v Q I rx ry ⟨i,j,rfl,rfl,q⟩;obtain ⟨t,rfl⟩:=(show ∃t,u=Value.int i t from rx);obtain ⟨t',rfl⟩:=(show ∃t',v=Value.int j t' from ry);exact PyProof.Rows.iadd_int ⟨.int (i+j),H,I.tok _,⟨_,rfl⟩,q⟩
def zs3:zxZ X .Sub zwM:=by
 rintro pins s σ H x y u v Q I rx ry ⟨i,j,rfl,rfl,q⟩;obtain ⟨t,rfl⟩:=(show ∃t,u=Value.int i t from rx);obtain ⟨t',rfl⟩:=(show ∃t',v=Value.int j t' from ry);exact PyProof.Rows.isub_int ⟨.int (i-j),H,I.tok _,⟨_,rfl⟩,q⟩
end
section
variable{X:Cx}{pins:Z3}{σ:St}{H:Hp}{s:Shared}{A:Around}{E:Z5}{Q:Z5}{c:Value}{b:Bool}
inductive TyOf(K:PySem.W.Frag)(H:Hp):V->Value->Prop where
 | non:TyOf K H .non (.type "NoneType")
 | bl (x:Bool):TyOf K H (.bl x) (.type "bool")
 | int (i:Int):TyOf K H (.int i) (.type "int")
 | str (x:Str):TyOf K H (.str x) (.type "str")
 | flt (x:UInt64):TyOf K H (.flt x) (.type "float")
 | lst {a:Addr} {xs:List V} (e:H a=some (.lst xs)):TyOf K H (.ref a) (.type "list")
 | frz {a:Addr} {o:Obj} {xs:List V} (e:H a=some (.frz o (.lst xs))):TyOf K H (.ref a) (.type "list")
 | tup {a:Addr} {xs:List V} (e:H a=some (.tup xs)):TyOf K H (.ref a) (.type "tuple")
 | dK {a:Addr} {kvs:List (Key×V)} (e:H a=some (.dK kvs)):TyOf K H (.ref a) (.type "dict")
 | dT {a:Addr} {kvs:List (List Key×V)} (e:H a=some (.dT kvs)):TyOf K H (.ref a) (.type "dict")
 | ins {a C dx:Addr} {fs:List (Str×V)} (e:H a=some (.ins C dx fs)) (cl:Cls K C) (ha:PySem.W.findIn K (.ref C) "__class__" = some (some (.builtin "object.__class__")))
   (hn:PySem.W.specialIn K (.builtin "object.__class__") "__get__" = some (some (.builtin "getset_descriptor.__get__"))) (htk:PySem.W.takesIn K (.builtin "object.__class__")=some true)
   (hm:PySem.W.mroIn K C (.type "object")=some true):TyOf K H (.ref a) (.ref C)
def zlz{x:V}{u t:Value}(I:Inv X pins σ H s)(rx:zbr x u)(ty:TyOf X.K H x t)(e:PySem.W.kitOne X.K t c=some b)(h:∀tk,Q (.bool b) { s with toks:=tk }) :
  wpAny (model X.prog X.w) A (call (.builtin "isinstance") [u,c]) Q E s:=by
 cases ty with
 | non=>cases (show u=Value.none from rx);exact ybd PySem.W.kitx_none I.kIn True.intro e (fun z=>nomatch z) h
 | bl y=>cases (show u=Value.bool y from rx);exact ybd PySem.W.kitx_bool I.kIn True.intro e (fun z=>nomatch z) h
 | int i=>obtain ⟨t,q⟩:=(show ∃t,u=Value.int i t from rx);cases q;exact ybd PySem.W.kitx_int I.kIn True.intro e (fun z=>nomatch z) h
 | str y=>obtain ⟨t,q⟩:=(show ∃t,u=Value.str y t from rx);cases q;exact ybd PySem.W.kitx_str I.kIn True.intro e (fun z=>nomatch z) h
 | flt y=>obtain ⟨t,q⟩:=(show ∃t,u=Value.float y t from rx);cases q;exact ybd PySem.W.kitx_float I.kIn True.intro e (fun z=>nomatch z) h
 | @lst a xs ea =>
  cases (show u=Value.ref a from rx);obtain ⟨_,_,n,_,h1⟩:=(show zbL X.prog X.w H s.heap a (.lst xs) from I.hok a _ ea);exact ybd PySem.W.kitx_list I.kIn ⟨_,h1,rfl⟩ e (fun z=>nomatch z) h
 | @frz a ob xs ea =>
  cases (show u=Value.ref a from rx);obtain ⟨_,_,_,n,_,h1⟩:=(show zbL X.prog X.w H s.heap a (.frz ob (.lst xs)) from I.hok a _ ea);exact ybd PySem.W.kitx_list I.kIn ⟨_,h1,rfl⟩ e (fun z=>nomatch z) h
 | @tup a xs ea =>
  cases (show u=Value.ref a from rx);obtain ⟨_,_,_,p⟩:=(show zbL X.prog X.w H s.heap a (.tup xs) from I.hok a _ ea);obtain ⟨o,h1,h2,_⟩:=p;exact ybd PySem.W.kitx_tuple I.kIn ⟨o,h1,h2⟩ e (fun z=>nomatch z) h
 | @dK a kvs ea =>
  cases (show u=Value.ref a from rx);obtain ⟨_,_,vs,_,p⟩:=(show zbL X.prog X.w H s.heap a (.dK kvs) from I.hok a _ ea);obtain ⟨o,es,ep,h1,h2,_⟩:=p;exact ybd PySem.W.kitx_dict I.kIn ⟨o,h1,h2.1⟩ e (fun z=>nomatch z) h
 | @dT a kvs ea =>
  cases (show u=Value.ref a from rx);obtain ⟨_,_,xs,_,o,es,ep,h1,h2,_⟩:=(show zbL X.prog X.w H s.heap a (.dT kvs) from I.hok a _ ea);exact ybd PySem.W.kitx_dict I.kIn ⟨o,h1,h2.1⟩ e (fun z=>nomatch z) h
 | @ins a C dx fs ea cl ha hn htk hm =>
  cases (show u=Value.ref a from rx);obtain ⟨mA,O,_⟩:=zgj I.hok ea;obtain ⟨od,J,_⟩:=O.look;exact ybd (PySem.W.kitx_own (cl.get _) cl.hd ha hn htk hm) I.kIn J e (fun z=>nomatch z) h
end
structure Room(k:Nat)(A:Around):Prop where
 hd:A.handled=none
 dp:A.depth+3*k+5<recursionLimit
 un:A.units+16*k+200<cLine
theorem Room.mono(r:Room k A)(h:j<=k):Room j A:=⟨r.hd,by have:=r.dp;omega,by have:=r.un;omega⟩
theorem Room.deeper(r:Room (k+1) A)(env:Env):Room k (A.deeper env) :=
 ⟨r.hd,by have:=r.dp;show A.depth+1+3*k+5<_;omega,by have:=r.un;show A.units+3+16*k+200<_;omega⟩
def zjQ{A:Around}:(A.under (.builtin "type.__call__" ⟨.ref C::us,kw⟩)).depth=A.depth+1:=by
 first | rfl | simp [Around.under,Code.weight,Code.isCreation,Code.isGuard,Code.isCaller,Code.frames,Code.isFrame,guardIds]
def zjP{A:Around}:(A.under (.builtin "type.__call__" ⟨.ref C::us,kw⟩)).units=A.units+1:=by
 first | rfl | simp [Around.under,Code.cUnits,Code.frames,Code.isFrame]
theorem Room.make(r:Room (k+1) A)(C:Addr)(us:List Value)(kw:List (Str×Value)):Room k (A.under (.builtin "type.__call__" ⟨.ref C::us,kw⟩)) :=
 ⟨r.hd,by have:=r.dp;rw [zjQ];omega,by have:=r.un;rw [zjP];omega⟩
theorem Room.depth(r:Room k A):A.depth<recursionLimit:=by have:=r.dp;omega
theorem Room.units(r:Room k A):A.units+64<cLine:=by have:=r.un;omega
noncomputable def ztI:TA:=fun _ H Q=>Q [] H
noncomputable def zoW(ta:TE)(tr:TA):TA:=fun σ H Q=>ta σ H fun x H1=>tr σ H1 fun xs H2=>Q (x::xs) H2
section
variable{X:Cx}{e:Expr}{es:List Expr}{te:TE}{t:TA}{pos:Pos}
def zcF:PA X [] ztI:=fun _ _ _ _ H Q I h=>Calls.spliced_nil ⟨[],H,I,.nil,h⟩
def za7(ha:PE X e te)(hr:PA X es t)(hs:starEach (e::es) X.env=(false,eval e X.env)::starEach es X.env:=by rfl):PA X (e::es) (zoW te t):=by
 intro pos pins s σ H Q I h;rw [hs];show wpAny _ _ (spliced ((false,eval e X.env)::backTo pos (starEach es X.env))) _ _ s;refine ycV (thn (ha pins s σ H _ I h) fun u s1 ⟨x,H1,I1,r1,q1⟩=>?_);exact thn (hr pos pins s1 σ H1 _ I1 q1) fun us s2 ⟨xs,H2,I2,r2,q2⟩=>⟨x::xs,H2,I2,.cons r1 r2,q2⟩
noncomputable def zyz(t:TA):TE:=fun σ H Q=>t σ H fun xs H1=>xs.length<=sizeLine/\∀p,H1 p=none->Q (.ref p) (upd H1 p (.tup xs))
noncomputable def zyE(t:TA):TE:=fun σ H Q=>t σ H fun xs H1=>xs.length<=sizeLine/\∀p,H1 p=none->Q (.ref p) (upd H1 p (.lst xs))
def zoi{x1}(h:PA X es t):PE X (.Tuple es x1 pos) (zyz t):=by
 intro pins s σ H Q I hq;refine wpAny_Tuple_spliced (thn (h pos pins s σ H _ I hq) fun us s1 ⟨xs,H1,I1,r,z,q⟩=>⟨by rw [<-r.length];exact z,?_⟩);have hf:H1 s1.heap.objs.size=none:=I1.hok.fresh (yaj _);refine ⟨.ref s1.heap.objs.size,upd H1 s1.heap.objs.size (.tup xs),I1.laid (t':=s1.toks) (fun b u e=>yag _ e) (yaj _) ?_,rfl,q _ hf⟩;exact ⟨z,us,r,⟨_,yao _ rfl,rfl,_,rfl,rfl⟩⟩
def zoj(h:PA X es t):PE X (.List es pos) (zyE t):=by
 intro pins s σ H Q I hq;refine wpAny_List_spliced (thn (h pos pins s σ H _ I hq) fun us s1 ⟨xs,H1,I1,r,z,q⟩=>⟨by rw [<-r.length];exact z,?_⟩);have hf:H1 s1.heap.objs.size=none:=I1.hok.fresh (yaj _);refine ⟨.ref s1.heap.objs.size,upd H1 s1.heap.objs.size (.lst xs),I1.laid (t':=s1.toks) (fun b u e=>yag _ e) (yaj _) ?_,rfl,q _ hf⟩;exact ⟨z,us,0,r,yao _ rfl⟩
end
noncomputable abbrev Sp:=List V->Hp->VK->XK->Prop
noncomputable abbrev CXT:=List Env->Hp->Shared->XK->Value->Shared->Prop
structure Env0(P:Program)(w:World)(K:PySem.W.Frag)(mg:Z6)(base:Heap)(A:Around)(outer:List Env)(s:Shared)(H:Hp):Prop where
 frames:A.frames=some outer
 mod:Mod K mg base
 bs:∀b o,base.get? b=some o->s.heap.get? b=some o/\H b=none
 bsz:base.objs.size<=s.heap.objs.size
 funs:s.heap.FunFrames base outer
 frf:∀b∈frs outer,H b=none
 hok:HOk P w H s.heap
 bare:AllBare s.gens
noncomputable def CE(outer:List Env)(P:Program)(w:World)(H:Hp)(s:Shared)(Q:VK)(u:Value)(s':Shared):Prop :=
 ∃v H',s'.os=s.os/\AllBare s'.gens/\Un (frs outer) [] H H' s.heap s'.heap/\HOk P w H' s'.heap/\zbr v u/\Q v H'
noncomputable def CR(CX:CXT)(outer:List Env)(P:Program)(w:World)(H:Hp)(s:Shared)(Q:VK)(E:XK)(r:Result)(s':Shared):Prop :=
 match r with
 | .ok (.ret u)=>CE outer P w H s Q u s'
 | .ok _=>False
 | .error e=>CX outer H s E e s'
structure FnOk(P:Program)(w:World)(K:PySem.W.Frag)(mg:Z6)(base:Heap)(CX:CXT)(k:Nat)(f:Addr)(fd:FuncData)(ps:List Str)(sp:Sp):Prop where
 len:∀vs H Q E,sp vs H Q E->vs.length=ps.length
 run:∀(A:Around) (outer:List Env) (s:Shared) (H:Hp) (args:Args) (us:List Value) (vs:List V) (Q:VK) (E:XK),Room k A->Env0 P w K mg base A outer s H->BindsTo s fd args (ps.zip us)->Vals vs us->sp vs H Q E →
  codeAny (model P w) A (.call (.ref f) args) (CR CX outer P w H s Q E) s
theorem FnOk.mono{P:Program}{K:PySem.W.Frag}{j k:Nat}(F:FnOk P w K mg base CX j f fd ps sp)(h:j<=k) :
  FnOk P w K mg base CX k f fd ps sp:=⟨F.len,fun A outer s H args us vs Q E hr=>F.run A outer s H args us vs Q E (hr.mono h)⟩
def FnOk.imp{P:Program}{K:PySem.W.Frag}{k:Nat}(F:FnOk P w K mg base CX k f fd ps sp)
  (h:∀vs H Q E,sp' vs H Q E->sp vs H Q E):FnOk P w K mg base CX k f fd ps sp' :=
 ⟨fun vs H Q E q=>F.len vs H Q E (h _ _ _ _ q),fun A outer s H args us vs Q E hr he hb hv hs=>F.run A outer s H args us vs Q E hr he hb hv (h _ _ _ _ hs)⟩
def Env0.make{P:Program}{K:PySem.W.Frag}{A:Around}(e:Env0 P w K mg base A outer s H)(C:Addr)(us:List Value)(kw:List (Str×Value)) :
  Env0 P w K mg base (A.under (.builtin "type.__call__" ⟨.ref C::us,kw⟩)) outer s H:=⟨by first | exact e.frames | (simpa [Around.under,Code.envs,Code.isFrame,pushEnvs] using e.frames),e.mod,e.bs,e.bsz,e.funs,e.frf,e.hok,e.bare⟩
section
variable{X:Cx}{pins:Z3}{σ:St}{H:Hp}{s s':Shared}
def Inv.env0(I:Inv X pins σ H s):Env0 X.prog X.w X.K X.mg X.base X.A X.stack s H :=
 ⟨I.ok.frames,I.ok.mod,I.bs,yak I.ok.bsz I.sz,I.stack,I.stkFree,I.hok,I.bare⟩
def Inv.after(I:Inv X pins σ H s)(h:CE X.stack X.prog X.w H s Q u s'):EP X pins σ Q u s':=by
 obtain ⟨v,H',os,bare,un,hok,r,q⟩:=h;obtain ⟨hh,g,d,t,os'⟩:=s';obtain rfl:os'=s.os:=os;exact ⟨v,H',I.call (h':=hh) (g':=g) (d':=d) (t':=t) (ch:=[]) un hok bare (fun b z=>absurd z (by simp)),r,q⟩
end
noncomputable def zce(K:PySem.W.Frag)(fd:FuncData)(ps:List Str)(ds:List Value):Prop :=
 ∀(s:Shared) (us:List Value),K.In s.heap->(us++ds).length=ps.length->BindsTo s fd ⟨us,[]⟩ (ps.zip (us++ds))
def zce.all{K:PySem.W.Frag}{ps:List Str}(h:∀us:List Value,us.length=ps.length->bindArgs fd ⟨us,[]⟩=pure (ps.zip us)):zce K fd ps []:=fun s us _ hl=>by
 rw [yaS] at hl ⊢;exact .of_eq (h us hl)
noncomputable def ztB(CX:CXT)(X:Cx)(E:XK):Prop:=∀(pins:Z3) (σ:St) (H:Hp) (s:Shared) (e:Value) (s':Shared),Inv X pins σ H s->CX X.stack H s E e s'->X.xe e s'
section
variable{X:Cx}{CX:CXT}{k:Nat}{f C:Addr}{fd:FuncData}{ps:List Str}{sp:Sp}{dvs:List V}{ds:List Value}{E:XK}{x m:Str}{p pos apos:Pos}{e o:Expr}{es:List Expr}{ta:TE}{t:TA}
structure Mk(K:PySem.W.Frag)(C f:Addr):Prop where
 makes:PySem.W.makesIn K C=true
 init:PySem.W.findIn K (.ref C) "__init__" = some (some (.ref f))
 fn:PySem.W.isFn K (.ref f)=true
 kp:PySem.W.keepIn K (.ref C)=true
end
structure FnScope(N P:List Str)(sc:Scope):Prop where
 kind:sc.kind=.function
 co:sc.isCoroutine=false
 gen:sc.isGenerator=false
 nd:N.Nodup
 pre:N.take P.length=P
 par:∀x∈P,sc.names.lookup x=some .local\/sc.names.lookup x=some .cell
 nofree:∀y∈sc.names,y.2≠.free
theorem zhG{kindOf:Str->Option NameKind}:∀{binds:List (Str×Value)} {m:Z6},(∀v,(x,v) ∉ binds)->bindL kindOf binds m x=m x
 | [],_,_=>rfl
 | (n,v)::r,m,h=>by
  unfold bindL;rw [zhG fun w hw=>h w (yaw _ hw)];split
  ·have:x≠n:=by rintro rfl;exact h v yaA
   simp [this]
  ·rfl
theorem zhI{kindOf:Str->Option NameKind}:∀{binds:List (Str×Value)} {m:Z6},(∀v,(x,v) ∉ binds)->bindC kindOf binds m x=m x
 | [],_,_=>rfl
 | (n,v)::r,m,h=>by
  unfold bindC;rw [zhI fun w hw=>h w (yaw _ hw)];split
  ·rfl
  ·have:x≠n:=by rintro rfl;exact h v yaA
   simp [this]
theorem zhH{kindOf:Str->Option NameKind}:∀{P:List Str} {vs:List Value} {i:Nat} {m:Z6},P.Nodup->P[i]?=some x->vs[i]?=some v->kindOf x=some .local →
  bindL kindOf (P.zip vs) m x=some v
 | [],_,_,_,_,h,_,_=>by simp at h
 | _::_,[],_,_,_,_,h,_=>by simp at h
 | p::P,w::vs,0,m,nd,h1,h2,hk=>by
  simp at h1 h2;subst h1;subst h2;show bindL kindOf ((p,w)::P.zip vs) m p=_;unfold bindL;rw [zhG fun v hv=>(ybO.mp nd).1 (List.of_mem_zip hv).1,if_pos hk];simp
 | p::P,w::vs,i+1,m,nd,h1,h2,hk=>by
  show bindL kindOf ((p,w)::P.zip vs) m x=_;unfold bindL;exact zhH (i:=i) (ybO.mp nd).2 (by simpa using h1) (by simpa using h2) hk
theorem zhJ{kindOf:Str->Option NameKind}:∀{P:List Str} {vs:List Value} {i:Nat} {m:Z6},P.Nodup->P[i]?=some x->vs[i]?=some v->kindOf x≠some .local →
  bindC kindOf (P.zip vs) m x=some v
 | [],_,_,_,_,h,_,_=>by simp at h
 | _::_,[],_,_,_,_,h,_=>by simp at h
 | p::P,w::vs,0,m,nd,h1,h2,hk=>by
  simp at h1 h2;subst h1;subst h2;show bindC kindOf ((p,w)::P.zip vs) m p=_;unfold bindC;rw [zhI fun v hv=>(ybO.mp nd).1 (List.of_mem_zip hv).1,if_neg hk];simp
 | p::P,w::vs,i+1,m,nd,h1,h2,hk=>by
  show bindC kindOf ((p,w)::P.zip vs) m x=_;unfold bindC;exact zhJ (i:=i) (ybO.mp nd).2 (by simpa using h1) (by simpa using h2) hk
noncomputable def zeQ(N:List Str)(vs:List V):St:=vs.map some++List.replicate (N.length-vs.length) none
noncomputable def zlQ(CX:CXT)(P:Program)(w:World)(K:PySem.W.Frag)(mg:Z6)(base:Heap)(N:List Str)(qual:Str)(scope:Scope)(f:Addr)(cd:Value)(A:Around)(outer:List Env)(s:Shared)(H:Hp)(E:XK):Cx where
 prog:=P
 w:=w
 K:=K
 mg:=mg
 base:=base
 A:=A.deeper (envOfC qual scope s.heap.objs.size f cd)
 N:=N
 s₀:=s
 H₀:=H
 env:=envOfC qual scope s.heap.objs.size f cd
 outer:=outer
 stack:=envOfC qual scope s.heap.objs.size f cd::outer
 ex:=[]
 calm:=true
 fn:=fun _=>true
 pn:=[]
 xe:=fun e s'=>wpAny (model P w) (A.deeper (envOfC qual scope s.heap.objs.size f cd)) (leaving (envOfC qual scope s.heap.objs.size f cd) e) (fun _ s''=>CX outer H s E e s'') (fun e' s''=>CX outer H s E e' s'') s'
def zjn{sc:Scope}(h:sc.names.lookup x=some .cell):∃c,(cellsFrom n sc.names []).lookup x=some c:=by
 have q:=PySem.W.cellsFrom_some sc.names n [] (.inl h);exact Option.isSome_iff_exists.mp q
theorem zlC{P:Program}{K:PySem.W.Frag}{N ps:List Str}{scope:Scope}{A:Around}{s s1:Shared}{vs:List V}
  (S:FnScope N ps scope) (hd:A.handled=none) (e0:Env0 P w K mg base A outer s H) (hl:vs.length=ps.length) (r:Vals vs us)
  (x:InCallC s s.heap.objs.size (bindL (envOfC qual scope s.heap.objs.size f cd).kindOf (ps.zip us) fun _=>none) (cellsFrom (s.heap.objs.size+1) scope.names []) (bindC (envOfC qual scope s.heap.objs.size f cd).kindOf (ps.zip us) fun _=>none) s1) :
  Inv (zlQ CX P w K mg base N qual scope f cd A outer s H E) [] (zeQ N vs) H s1:=by
 have hpl:ps.length<=N.length:=by have:=congrArg List.length S.pre;rw [yaC] at this;omega
 obtain ⟨h1,tk,rfl,hk⟩:=x.done;have noA:∀b:Addr,b ∉ (zlQ CX P w K mg base N qual scope f cd A outer s H E).ex:=fun b z=>absurd (show b∈([]:List Addr) from z) (by simp)
 refine ⟨⟨e0.mod,S.kind,rfl,rfl,yaj _,fun y z c h1 h2=>?_,fun y hy=>?_,fun y c _ h=>?_,fun _=>hd,Around.frames_deeper e0.frames,.inr ⟨rfl,rfl⟩,fun b z=>absurd z (noA b),e0.bs,e0.bsz,fun b _ _=>noA b,fun b z=>absurd z (noA b),e0.funs,e0.frf⟩,
  rfl,e0.bare,Un.kept hk,⟨_,x.toInCall.ns,fun i y v h1 h2 h3=>?_⟩,fun y c h=>⟨_,x.cell y c h⟩,e0.hok.fresh (yaj _),fun y c h=>?_,fun p hp=>absurd (show p∈([]:Z3) from hp) (by simp),e0.hok.kept hk,?_⟩
 ·exact name_of_addr x.apart (yaK h1) (yaK h2)
 ·have hy:scope.names.lookup y=some .cell\/scope.names.lookup y=some .free:=hy
  rcases hy with hy | hy
  ·exact zjn hy
  ·exact absurd rfl (S.nofree _ (yaK hy))
 ·exact yca (x.above y c (yaK h))
 ·have hi:i<vs.length:=by
   unfold zeQ at h2
   by_cases hi:i<vs.length
   ·exact hi
   ·rw [yas (by simpa using hi)] at h2;rw [ya9] at h2
    split at h2<;>cases h2
  have ha:vs[i]?=some v:=by
   unfold zeQ at h2;rw [yay (by simpa using hi),yal] at h2
   cases e:vs[i]? with
   | none=>rw [e] at h2;cases h2
   | some a=>rw [e] at h2;cases h2;rfl
  obtain ⟨u,hu,rv⟩:=r.get ha
  have hp:ps[i]?=some y:=by
   rw [<-S.pre,List.getElem?_take_of_lt (by omega)];exact h1
  have ndP:ps.Nodup:=by rw [<-S.pre];exact S.nd.sublist (List.take_sublist _ _)
  refine ⟨u,rv,?_⟩
  rcases S.par y (ybb hp) with k | k
  ·exact .inl ⟨k,zhH ndP hp hu k⟩
  ·obtain ⟨c,e⟩:=zjn (n:=s.heap.objs.size+1) k;refine .inr ⟨.inl k,c,e,?_⟩;have q:=x.cell y c e;rw [zhJ ndP hp hu (by show scope.names.lookup y≠_;rw [k];decide)] at q;exact q
 ·exact e0.hok.fresh (yca (x.above y c (yaK h)))
 ·unfold zeQ;show _=N.length;rw [yam,yad,yaG];omega
def zs8{CX:CXT}{P:Program}{w:World}{K:PySem.W.Frag}{mg:Z6}{base:Heap}{k:Nat}{f:Addr}{name qual:Str}{params:Arguments}{body:List Stmt}{scope:Scope}{dV kV doc pm cdv ct oc:Value}{an od:Option Addr}
  {osl:Array (Option Value)} {N ps:List Str} {sp:Sp} (lk:K.lookup f=some ⟨oc,od,.func (PySem.W.fnOf name qual params body scope dV kV doc pm an cdv ct),osl⟩) (hcd:PySem.W.codeIn K cdv qual=true) (S:FnScope N ps scope)
  (len:∀vs H Q E,sp vs H Q E->vs.length=ps.length)
  (hbody:∀(A:Around) (outer:List Env) (s:Shared) (H:Hp) (vs:List V) (Q:VK) (E:XK),Room k (A.deeper (envOfC qual scope s.heap.objs.size f cdv))->sp vs H Q E →
   ∃t,PSs (zlQ CX P w K mg base N qual scope f cdv A outer s H E) body t/\t { nx:=fun _ H'=>Q .non H',rt:=Q } (zeQ N vs) H) :
  FnOk P w K mg base CX (k+1) f (PySem.W.fnOf name qual params body scope dV kV doc pm an cdv ct) ps sp:=by
 refine ⟨len,fun A outer s H args us vs Q E hr e0 hb r hsp=>?_⟩;have hl:=len _ _ _ _ hsp;have KX:K.In s.heap:=e0.mod.kin.keeps fun b o e=>(e0.bs b o e).1
 have lim:s.heap.NoLimit:=e0.mod.nolimit.keeps fun b o e=>(e0.bs b o e).1
 have hkind:∀y∈ps.zip us,scope.names.lookup y.1=some .local\/(scope.names.lookup y.1=some .cell/\((cellsFrom (s.heap.objs.size+1) scope.names []).lookup y.1).isSome=true):=fun ⟨n,v⟩ hy=>by
  rcases S.par n (List.of_mem_zip hy).1 with q | q
  ·exact .inl q
  ·exact .inr ⟨q,PySem.W.cellsFrom_some _ _ _ (.inl q)⟩
 refine codeAny_call_function hr.depth (KX _ _ lk) rfl S.co S.gen rfl (PySem.W.codeRec_of KX hcd) (hb _ _ _ _ ?_);refine wpAny_newFunctionEnv_cells S.kind hkind fun env he s1 x=>?_
 subst he;refine ⟨lim.keeps x.toInCall.keep,codeAny_func ?_⟩;obtain ⟨t,ht,hq⟩:=hbody A outer s H vs Q E (hr.deeper _) hsp;have I:Inv (zlQ CX P w K mg base N qual scope f cdv A outer s H E) [] (zeQ N vs) H s1:=zlC S hr.hd e0 hl r x;refine ybE (ht [] s1 (zeQ N vs) H _ I hq) (fun fl s' hs=>?_) fun e s' hs=>hs
 have fin:∀{σ':St} {H':Hp} {v:V} {u:Value},Inv (zlQ CX P w K mg base N qual scope f cdv A outer s H E) [] σ' H' s'->zbr v u->Q v H'->CE outer P w H s Q u s' :=
  fun {σ' H' v u} J rv q=>⟨v,H',J.os,J.bare,J.base,J.hok,rv,q⟩
 cases fl with
 | ret u =>
  obtain ⟨v,σ',H',J,rv,q⟩:=hs;exact fin J rv q
 | next =>
  obtain ⟨σ',H',J,q⟩:=hs;exact fin (v:=V.non) (u:=Value.none) J rfl q
 | brk =>
  obtain ⟨_,_,_,q⟩:=hs;exact False.elim q
 | cont =>
  obtain ⟨_,_,_,q⟩:=hs;exact False.elim q
section
variable{X:Cx}{x:Str}{p pos:Pos}{e:Expr}{es:List Expr}{t:TA}{id T:String}{r:List V->Hp->VK->Prop}
noncomputable def tCB(r:List V->Hp->VK->Prop)(t:TA):TE:=fun σ H Q=>t σ H fun vs H1=>r vs H1 Q
def zeH(hc:zdw X (.builtin id) r)(hg:Gl X x)(hm:X.mg x=none)(hv:bootBuiltins x=some (.builtin id))(ha:PA X (e::es) t)(hn:x ≠ "__name__":=by decide)(hdb:(x == ("__debug__":Str))=false:=by decide)
  (he:starEach (e::es) X.env=(false,eval e X.env)::starEach es X.env:=by rfl) (hpl:(backTo pos (starEach es X.env)).any (·.1)=false:=by rfl):PE X (.Call (.Name x p) (e::es) [] pos) (tCB r t):=by
 intro pins s σ H Q I h;refine ybW (zeu I hg hm hv ?_ hn hdb);exact PyProof.Rows.callWith_builtin1 (thn (ha pos pins s σ H _ I h) fun us s1 ⟨vs,H1,I1,r1,q1⟩=>hc pins s1 σ H1 vs us Q I1 r1 q1) he hpl
def zc1(hc:zdw X (.type T) r)(hg:Gl X x)(hm:X.mg x=none)(hv:bootBuiltins x=some (.type T))(ha:PA X (e::es) t)(hn:x ≠ "__name__":=by decide)(hdb:(x == ("__debug__":Str))=false:=by decide)
  (he:starEach (e::es) X.env=(false,eval e X.env)::starEach es X.env:=by rfl) (hpl:(backTo pos (starEach es X.env)).any (·.1)=false:=by rfl):PE X (.Call (.Name x p) (e::es) [] pos) (tCB r t):=by
 intro pins s σ H Q I h;refine ybW (zeu I hg hm hv ?_ hn hdb);exact ya7 (thn (ha pos pins s σ H _ I h) fun us s1 ⟨vs,H1,I1,r1,q1⟩=>hc pins s1 σ H1 vs us Q I1 r1 q1) he hpl
end
end L2
namespace HT
open PySem PyProof.Rows
section
open PySem.SeqAt
open PySem.AutoSeq1 (wpAny_loadPart')
open PySem.MeetsSeq PySem.MeetsSeq2 PySem.MeetsSeq3
end
section
variable{prog:Program}{w:World}{A:Around}{E:Z5}{s:Shared}
def zqD{t b:Addr}{vs ws:List Value}{Q:Z5}(ht:IsTup s.heap t vs.toArray)(hb:IsTup s.heap b ws.toArray)(hv:vs≠[])
  (h1:ws=[]->Q (.ref t) s) (h2:ws≠[]->Q (.ref s.heap.objs.size) { s with heap:=s.heap.push { cls:=.type "tuple",data:=.seq (vs++ws).toArray } })
  (hsz:vs.length+ws.length<=sizeLine):wpAny (model prog w) A (binaryOp .Add (.ref t) (.ref b)) Q E s:=by
 obtain ⟨⟨cls,dd,data,sl⟩,ho,hc,n,hd⟩:=id ht;obtain ⟨⟨cls2,dd2,data2,sl2⟩,ho2,hc2,n2,hd2⟩:=id hb;simp only at hc hd hc2 hd2;subst hc hd hc2 hd2
 have e:vs.toArray++ws.toArray=(vs++ws).toArray:=by simp
 by_cases hw:ws=[]
 ·exact concat_meets ⟨_,ho,rfl⟩ ⟨_,ho2,rfl⟩ noFill_tuple_add seq_tuple_add ycm yce (ycb _ _)
   (tuple_addW1 t b vs.toArray ws.toArray n n2 dd dd2 sl sl2 (by simpa using hv) (by simp [hw])) ⟨ho,ho2,h1 hw⟩
 ·refine concat_meets ⟨_,ho,rfl⟩ ⟨_,ho2,rfl⟩ noFill_tuple_add seq_tuple_add ycm yce (ycb _ _)
   (tuple_addW2 t b vs.toArray ws.toArray n n2 dd dd2 sl sl2 (by simpa using hv) (by simpa using hw) (by rw [yah,yah];exact hsz)) ⟨ho,ho2,?_⟩
  rw [e];exact h2 hw
noncomputable def sIx(n d:Nat):Option Int->Nat
 | none=>d
 | some v=>if v<0 then (v+(n:Int)).toNat else min v.toNat n
theorem zrP(n d:Nat)(hd:d<=n)(o:Option Int):sIx n d o<=n:=by
 cases o with
 | none=>exact hd
 | some v =>
  show (if v<0 then (v+(n:Int)).toNat else min v.toNat n)<=n
  by_cases hv:v<0
  ·rw [if_pos hv];omega
  ·rw [if_neg hv];exact Nat.min_le_right _ _
theorem zlX(v:Int)(n d:Nat):(if v<0 then max (v+(n:Int)) 0 else min v (n:Int))=((sIx n d (some v):Nat):Int):=by
 show (if v<0 then max (v+(n:Int)) 0 else min v (n:Int))=(((if v<0 then (v+(n:Int)).toNat else min v.toNat n):Nat):Int)
 by_cases hv:v<0
 ·simp only [if_pos hv];omega
 ·simp only [if_neg hv];omega
theorem zj9(lo hi:Option Int)(n:Nat):Builtin.Slice.sliceAdjust lo hi 1 (n:Int)=(((sIx n 0 lo:Nat):Int),((sIx n n hi:Nat):Int)):=by
 have h1:¬ ((1:Int)<0):=by omega
 unfold Builtin.Slice.sliceAdjust;simp only [h1,ybL];refine Prod.ext ?_ ?_
 ·cases lo with
  | none=>rfl
  | some v=>exact zlX v n 0
 ·cases hi with
  | none=>rfl
  | some v=>exact zlX v n n
theorem zjJ(i j:Nat):Builtin.Slice.slicePlaces (i:Int) (j:Int) 1=j-i:=by
 unfold Builtin.Slice.slicePlaces
 have h1:(1:Int) > 0:=by omega
 simp only [h1,ybT,Int.ediv_one]
 split<;>omega
def zfB(p:IsPart v o)(h:Q o s):wpAny (model prog w) A (Builtin.Slice.slicePartIndex v) Q E s:=by
 cases p with
 | none=>exact slicePart_none h
 | int i t=>exact slicePart_int h
def zcR{sl:Addr}{vl vu:Value}{lo hi:Option Int}{n:Nat}{Q:Int×Int×Nat->Shared->Prop}(hs:s.heap.IsSliceOf sl vl vu .none)(pl:IsPart vl lo)(pu:IsPart vu hi)
  (h:Q (((sIx n 0 lo:Nat):Int),1,sIx n n hi-sIx n 0 lo) s):wpAny (model prog w) A (Builtin.Slice.sliceApplied (.ref sl) (pure (n:Int))) Q E s:=by
 obtain ⟨os,hos,hcs,hds⟩:=id hs;unfold Builtin.Slice.sliceApplied Builtin.Slice.sliceFields;refine yaa (yaa (ybA hos hds (x:=vl) rfl (yaa (ybA hos hds (x:=vu) rfl (yaa (ybA hos hds (x:=.none) rfl (yae ?_)))))));refine yaa (slicePart_none ?_);show wpAny _ _ (if ((1:Int) == 0)=true then _ else _) _ _ s;rw [if_neg (by decide)];refine yaa (zfB pl (yaa (zfB pu (yaa (yae ?_)))));show wpAny _ _ (match Builtin.Slice.sliceAdjust lo hi 1 (n:Int) with | (lo,hi)=>pure (lo,(1:Int),Builtin.Slice.slicePlaces lo hi 1)) _ _ s;rw [zj9 lo hi n];show wpAny _ _ (pure (((sIx n 0 lo:Nat):Int),(1:Int),Builtin.Slice.slicePlaces ((sIx n 0 lo:Nat):Int) ((sIx n n hi:Nat):Int) 1)) _ _ s;rw [zjJ];exact yae h
theorem zmP(xs:Array Value)(i k:Nat):((List.range k).filterMap fun (m:Nat)=>xs[((i:Int)+(m:Int)*1).toNat]?).toArray=((xs.toList.drop i).take k).toArray:=by
 have e:(fun (m:Nat)=>xs[((i:Int)+(m:Int)*1).toNat]?)=fun m=>xs[i+m]?:=by
  funext m
  have:((i:Int)+(m:Int)*1).toNat=i+m:=by omega
  rw [this]
 rw [e];have:=pick_run xs i k;rw [List.filterMap_map] at this;have e2:((fun x=>xs[x]?)∘fun x=>i+x)=fun m=>xs[i+m]?:=rfl
 rw [e2] at this;rw [this]
theorem zee{t sl:Addr}{items:Array Value}{vl vu:Value}{lo hi:Option Int}{Q:Z5}(ht:IsTup s.heap t items)(hs:s.heap.IsSliceOf sl vl vu .none)(pl:IsPart vl lo)(pu:IsPart vu hi)
  (hw:¬ (sIx items.size 0 lo=0/\sIx items.size items.size hi=items.size))
  (h:Q (.ref s.heap.objs.size) { s with heap:=s.heap.push { cls:=.type "tuple",data:=.seq ((items.toList.drop (sIx items.size 0 lo)).take (sIx items.size items.size hi-sIx items.size 0 lo)).toArray } })
  (hsz:items.size<=sizeLine):wpAny (model prog w) A (getItem (.ref t) (.ref sl)) Q E s:=by
 have htake:sizeOk (.seq ((items.toList.drop (sIx items.size 0 lo)).take (sIx items.size items.size hi-sIx items.size 0 lo)).toArray):=by
  show ((items.toList.drop (sIx items.size 0 lo)).take (sIx items.size items.size hi-sIx items.size 0 lo)).toArray.size<=sizeLine;rw [yah,yaC,ybf,yaD];omega
 have hj:sIx items.size items.size hi<=items.size:=zrP _ _ (yaj _) hi;obtain ⟨os,hos,hcs,hds⟩:=id hs;have hTs:s.TypeIs (.ref sl) "slice":=⟨os,hos,hcs⟩;unfold getItem
 try with_reducible refine ybr ?_
 first | refine yaa (yae ?_) | skip
 refine yaa (wpAny_sequenceKey ht.typeIs (by decide) ?_)
 refine yaa (yaV (name:=Str.ofString "__getitem__") ht.typeIs yaY
  (yaU yaY ht.typeIs entry_tuple_getitem ?_ (args_tuple_getitem _ _)))
 show wpAny _ _ (Builtin.Tuple.tupleItemsOf (.ref t) >>= _) _ _ s;refine yaa (tupleItemsOf_ ht ?_);refine yaa (ycv hTs ?_);rw [if_pos (by decide)];refine yaa (zcR hs pl pu ?_)
 have hno:¬ ((((sIx items.size 0 lo:Nat):Int) == 0&&(1:Int) == 1&&(sIx items.size items.size hi-sIx items.size 0 lo) == items.size)=true):=by
  intro q;rw [yac,yac] at q;have q1:((sIx items.size 0 lo:Nat):Int)=0:=eq_of_beq q.1.1;have q2:sIx items.size items.size hi-sIx items.size 0 lo=items.size:=eq_of_beq q.2;exact hw ⟨by omega,by omega⟩
 show wpAny _ _ (if (((sIx items.size 0 lo:Nat):Int) == 0&&(1:Int) == 1&&(sIx items.size items.size hi-sIx items.size 0 lo) == items.size)=true then _ else _) _ _ s;rw [if_neg hno,zmP]
 first
  | exact yaa (m:=Builtin.Tuple.tupleExact _) (yaX (yae ⟨_,rfl,yae h⟩) htake)
  | exact yaa (m:=Builtin.Tuple.tupleExact _) (yaX (yaa (yae (yae ⟨_,rfl,yae h⟩))) htake)
  | exact yaa (yaa (m:=Builtin.Tuple.tupleExact _) (yaX (yae (yae ⟨_,rfl,yae h⟩)) htake))
  | exact yaa (yaa (m:=Builtin.Tuple.tupleExact _) (yaX (yae ⟨_,rfl,yae h⟩) htake))
end
end HT
namespace L2
open PySem PySem.Spec PyProof.Rows
noncomputable abbrev TO:=St->Hp->(Option Int->Hp->Prop)->Prop
noncomputable def PO(X:Cx)(e:Option Expr)(t:TO):Prop :=
 ∀(pins:Z3) (s:Shared) (σ:St) (H:Hp) (Q:Option Int->Hp->Prop),Inv X pins σ H s->t σ H Q →
  wpAny (model X.prog X.w) X.A (evalPart e X.env) (fun u s'=>∃o H',Inv X pins σ H' s'/\IsPart u o/\Q o H') X.xe s
noncomputable def zku:TO:=fun _ H Q=>Q none H
noncomputable def zrb(t:TE):TO:=fun σ H Q=>t σ H fun x H1=>∃i,x=.int i/\Q (some i) H1
section
variable{X:Cx}{e:Expr}{te:TE}{lo hi:Option Expr}{tl th:TO}{pos p2:Pos}
def zpy:PO X none zku:=by
 intro pins s σ H Q I h;rw [evalPart_none];exact yae ⟨none,H,I,.none,h⟩
def zpx(h:PE X e te):PO X (some e) (zrb te):=by
 intro pins s σ H Q I hw;rw [evalPart_some];refine thn (h pins s σ H _ I hw) fun u s1 ⟨x,H1,I1,r1,q1⟩=>?_
 obtain ⟨i,rfl,q⟩:=q1;obtain ⟨t,rfl⟩:=r1;exact ⟨some i,H1,I1,.int i t,q⟩
noncomputable def SlR(X:Cx)(r:V->Option Int->Option Int->Hp->VK->Prop):Prop :=
 ∀(pins:Z3) (s:Shared) (σ:St) (H:Hp) (x:V) (v vl vu:Value) (lo hi:Option Int) (sl:Addr) (Q:VK),Inv X pins σ H s->zbr x v->s.heap.IsSliceOf sl vl vu .none->IsPart vl lo->IsPart vu hi->r x lo hi H Q →
  ∃T id,typeLookup (.type T) "__getitem__" = pure (some (.builtin id))/\s.TypeIs v T/\wpAny (model X.prog X.w) X.A (getItem v (.ref sl)) (EP X pins σ Q) X.xe s
noncomputable def tSl(r:V->Option Int->Option Int->Hp->VK->Prop)(te:TE)(tl th:TO):TE:=fun σ H Q=>te σ H fun x H1=>tl σ H1 fun l H2=>th σ H2 fun u H3=>r x l u H3 Q
def zmR(hr:SlR X r)(he:PE X e te)(hl:PO X lo tl)(hu:PO X hi th):PE X (.Subscript e (.Slice lo hi none p2) pos) (tSl r te tl th):=by
 intro pins s σ H Q I h;refine Subscript_ (thn (he pins s σ H _ I h) fun v s1 ⟨x,H1,I1,r1,q1⟩=>?_);refine wpAny_Slice (thn (hl pins s1 σ H1 _ I1 q1) fun vl s2 ⟨l,H2,I2,pl,q2⟩=>thn (hu pins s2 σ H2 _ I2 q2) fun vu s3 ⟨u,H3,I3,pu,q3⟩=>?_);rw [evalPart_none];refine yae ?_;have I4:Inv X pins σ H3 { s3 with heap:=s3.heap.push { cls:=.type "slice",data:=.fields #[vl,vu,.none] } }:=I3.kept (t':=s3.toks) fun b ob q=>yag _ q
 obtain ⟨T,id,hT,ht,hg⟩:=hr pins { s3 with heap:=s3.heap.push { cls:=.type "slice",data:=.fields #[vl,vu,.none] } } σ H3 x v vl vu l u s3.heap.objs.size Q I4 r1 (Heap.IsSliceOf.new ..) pl pu q3;show wpAny (model X.prog X.w) X.A (subscriptTail e (.Slice lo hi none p2) v (.ref s3.heap.objs.size)) (EP X pins σ Q) X.xe { s3 with heap:=s3.heap.push { cls:=.type "slice",data:=.fields #[vl,vu,.none] } };exact tail_any (ops:=[.ref s3.heap.objs.size,v]) ht hT hg (by with_unfolding_all rfl)
def zoG(xs:List V)(lo hi:Option Int):List V:=(xs.drop (HT.sIx xs.length 0 lo)).take (HT.sIx xs.length xs.length hi-HT.sIx xs.length 0 lo)
theorem zfo(xs:List V)(lo hi:Option Int):(zoG xs lo hi).length<=xs.length:=by
 unfold zoG;rw [yaC,ybf];omega
noncomputable def zyK(K:PySem.W.Frag):V->Option Int->Option Int->Hp->VK->Prop:=fun x lo hi H Q=>∃a xs,x=.ref a/\SqT K H a xs ∧
 ¬ (HT.sIx xs.length 0 lo=0/\HT.sIx xs.length xs.length hi=xs.length)/\∀p,H p=none->Q (.ref p) (upd H p (.tup (zoG xs lo hi)))
def zrx:SlR X (zyK X.K):=by
 intro pins s σ H x v vl vu lo hi sl Q I rx hs pl pu h;obtain ⟨a,xs,rfl,hx,hw,q⟩:=h;cases rx;obtain ⟨its,r,ht,hz⟩:=I.tuple hx
 have hlen:its.toArray.size=xs.length:=by rw [yah];exact r.length.symm
 refine ⟨"tuple",_,yaY.lookup,ht.typeIs,?_⟩;refine HT.zee ht hs pl pu (by rw [hlen];exact hw) ?_ (by rw [hlen];exact hz);rw [hlen];refine ⟨.ref s.heap.objs.size,_,I.laid (t':=s.toks) (o:=.tup (zoG xs lo hi)) (fun b ob q=>yag _ q) (yaj _) ?_,rfl,q _ (I.hok.fresh (yaj _))⟩;exact ⟨yak (zfo xs lo hi) hz,_,(r.drop (HT.sIx xs.length 0 lo)).take (HT.sIx xs.length xs.length hi-HT.sIx xs.length 0 lo),znY.new _ _⟩
noncomputable def zuI(K:PySem.W.Frag):R2:=fun x y H Q=>∃a b xs ys,x=.ref a/\y=.ref b/\SqT K H a xs/\SqT K H b ys/\xs≠[]/\xs.length+ys.length<=sizeLine ∧
 (ys=[]->Q (.ref a) H)/\(ys≠[]->∀p,H p=none->Q (.ref p) (upd H p (.tup (xs++ys))))
def Vals.nil_iff(r:Vals xs us):us=[]↔xs=[]:=by
 cases r with
 | nil=>simp
 | cons _ _=>simp
def zpJ:OpR X (binaryOp .Add) (zuI X.K):=by
 intro pins s σ H x y v u Q I rx ry h;obtain ⟨a,b,xs,ys,rfl,rfl,ha,hb,hx,hz,q1,q2⟩:=h;cases rx;cases ry;obtain ⟨its,r1,p1,_⟩:=I.tuple ha;obtain ⟨its2,r2,p2,_⟩:=I.tuple hb;refine HT.zqD p1 p2 (fun z=>hx (r1.nil_iff.mp z)) (fun z=>⟨.ref a,H,I,rfl,q1 (r2.nil_iff.mp z)⟩) (fun z=>?_) (by rw [<-r1.length,<-r2.length];exact hz);refine ⟨.ref s.heap.objs.size,_,I.laid (t':=s.toks) (o:=.tup (xs++ys)) (fun b ob q=>yag _ q) (yaj _) ?_,rfl,q2 (fun w=>z (r2.nil_iff.mpr w)) _ (I.hok.fresh (yaj _))⟩;exact ⟨by rw [yam];exact hz,_,r1.append r2,znY.new _ _⟩
end
noncomputable def ixN(n:Nat)(i:Int):Option Nat:=if 0<=i then (if i<n then some i.toNat else none) else if -(n:Int)<=i then some (i+n).toNat else none
def atI{α:Type}(xs:List α)(i:Int):Option α:=(ixN xs.length i).bind fun j=>xs[j]?
theorem zqf(h:ixN n i=some j):seqIndex? i n=some j/\j<n/\-(n:Int)<=i/\i<n:=by
 unfold ixN at h
 by_cases h0:0<=i
 ·rw [if_pos h0] at h
  by_cases h1:i<n
  ·rw [if_pos h1] at h;have e:i.toNat=j:=Option.some.inj h;exact ⟨by rw [seqIndex_of h0 h1,e],by omega,by omega,h1⟩
  ·rw [if_neg h1] at h;cases h
 ·rw [if_neg h0] at h
  by_cases h1:-(n:Int)<=i
  ·rw [if_pos h1] at h;have e:(i+n).toNat=j:=Option.some.inj h;exact ⟨by rw [seqIndex_neg (by omega) h1,e],by omega,h1,by omega⟩
  ·rw [if_neg h1] at h;cases h
def zmb{α:Type}{xs:List α}{v:α}(h:atI xs i=some v):∃j,seqIndex? i xs.length=some j/\xs[j]?=some v/\j<xs.length/\-(xs.length:Int)<=i/\i<xs.length:=by
 unfold atI at h
 cases e:ixN xs.length i with
 | none=>rw [e] at h;cases h
 | some j =>
  rw [e] at h;obtain ⟨h1,h2,h3,h4⟩:=zqf e;exact ⟨j,h1,h,h2,h3,h4⟩
noncomputable def zgD(b:Expr):Prop:=∀o i,subscripted b false o i=operate [o,i] (getItem o i)
noncomputable def IxR(X:Cx)(r:R2):Prop :=
 ∀(value slice:Expr) (pins:Z3) (s:Shared) (σ:St) (H:Hp) (x y:V) (v u:Value) (Q:VK),Inv X pins σ H s->zbr x v->zbr y u->r x y H Q →
  subscripted slice false v u=operate [v,u] (getItem v u)->wpAny (model X.prog X.w) X.A (subscriptTail value slice v u) (EP X pins σ Q) X.xe s
noncomputable def MtR(X:Cx)(id:String)(r:V->List V->Hp->VK->Prop):Prop :=
 ∀(pins:Z3) (s:Shared) (σ:St) (H:Hp) (x:V) (xs:List V) (v:Value) (us:List Value) (Q:VK),Inv X pins σ H s->zbr x v->Vals xs us->r x xs H Q →
  wpAny (model X.prog X.w) X.A (call (.builtin id) (v::us)) (EP X pins σ Q) X.xe s
section
variable{X:Cx}{a b:Expr}{ta tb:TE}{pos:Pos}
def zse(hr:IxR X r)(ha:PE X a ta)(hb:PE X b tb)(hs:zgD b):PE X (.Subscript a b pos) (tOp r ta tb):=by
 intro pins s σ H Q I h;exact Subscript_ (zvC ha hb I h fun v u s2 x y H2 I2 rx ry q=>hr a b pins s2 σ H2 x y v u Q I2 rx ry q (hs _ _))
noncomputable def zyO(K:PySem.W.Frag):R2:=fun x y H Q=>∃p xs i v,x=.ref p/\y=.int i/\SqL K H p xs/\atI xs i=some v/\Q v H
noncomputable def zyN(K:PySem.W.Frag):R2:=fun x y H Q=>∃p xs i v,x=.ref p/\y=.int i/\SqT K H p xs/\atI xs i=some v/\Q v H
theorem zlx:IxR X (zyO X.K):=by
 intro value slice pins s σ H x y v u Q I rx ry h hs;obtain ⟨p,xs,i,z,rfl,rfl,hq,he,q⟩:=h;cases rx;obtain ⟨t,rfl⟩:=ry;obtain ⟨its,r,pl,hz⟩:=I.list hq;obtain ⟨j,h1,h2,h3,h4,h5⟩:=zmb he;obtain ⟨w,ew,rw'⟩:=r.get h2;have hl:=r.length;have hn:=zi6;have fin:EP X pins σ Q w s:=⟨z,H,I,rw',q⟩
 by_cases h0:0<=i
 ·have hj:i.toNat=j:=by
   rw [seqIndex_of h0 h5] at h1;exact Option.some.inj h1
  exact item_listR pl.isList h0 (by omega) (by rw [hj];simpa using ew) fin hs
 ·have hj:(i+(its.toArray.size:Int)).toNat=j:=by
   rw [seqIndex_neg (by omega) h4] at h1;rw [yah,<-hl];exact Option.some.inj h1
  exact ycn (x:=w) pl.isList.typeIs slot_list_getitem.lookup
   (wpAny_getItem_list_neg (Q:=fun r s'=>r=w/\EP X pins σ Q r s') pl.isList (by omega) (by rw [yah]<;>omega) (by omega) (by rw [hj];simpa using ew) ⟨rfl,fin⟩) hs
theorem zsY:IxR X (zyN X.K):=by
 intro value slice pins s σ H x y v u Q I rx ry h hs;obtain ⟨p,xs,i,z,rfl,rfl,hq,he,q⟩:=h;cases rx;obtain ⟨t,rfl⟩:=ry;obtain ⟨its,r,pl,hz⟩:=I.tuple hq;obtain ⟨j,h1,h2,h3,h4,h5⟩:=zmb he;obtain ⟨w,ew,rw'⟩:=r.get h2;have hl:=r.length;have hn:=zi6;have fin:EP X pins σ Q w s:=⟨z,H,I,rw',q⟩
 exact ycn (x:=w) pl.typeIs slot_tuple_getitem.lookup
  (getItem_tuple (j:=j) (Q:=fun r s'=>r=w/\EP X pins σ Q r s') pl (by omega) (by omega) (by rw [yah,<-hl];exact h1) (by simpa using ew) ⟨rfl,fin⟩) hs
theorem zgS(lo hi:Option Int)(n:Nat):(sliceBounds lo hi none n).1=((HT.sIx n 0 lo:Nat):Int)/\(sliceBounds lo hi none n).2.1=((HT.sIx n n hi:Nat):Int)/\(sliceBounds lo hi none n).2.2=1:=by
 refine ⟨?_,?_,rfl⟩
 ·cases lo with
  | none=>simp [sliceBounds,HT.sIx]
  | some i =>
   simp only [sliceBounds,HT.sIx,Option.getD_none,show (1:Int) > 0 by decide,ybT]
   by_cases h:i<0
   ·simp only [h,ybT]<;>omega
   ·simp only [h,ybL]<;>omega
 ·cases hi with
  | none=>simp [sliceBounds,HT.sIx]
  | some i =>
   simp only [sliceBounds,HT.sIx,Option.getD_none,show (1:Int) > 0 by decide,ybT]
   by_cases h:i<0
   ·simp only [h,ybT]<;>omega
   ·simp only [h,ybL]<;>omega
def zf1(its:List Value)(lo hi:Option Int):slicePick its.toArray lo hi none=((its.drop (HT.sIx its.length 0 lo)).take (HT.sIx its.length its.length hi-HT.sIx its.length 0 lo)).toArray:=by
 obtain ⟨h1,h2,h3⟩:=zgS lo hi its.toArray.size;unfold slicePick;rw [h1,h2,h3]
 simp only [sliceRange_one,pick_run,yah]<;>rfl
noncomputable def zyL(K:PySem.W.Frag):V->Option Int->Option Int->Hp->VK->Prop:=fun x lo hi H Q=>∃a xs,x=.ref a/\SqL K H a xs/\∀p,H p=none->Q (.ref p) (upd H p (.lst (zoG xs lo hi)))
theorem zpb:SlR X (zyL X.K):=by
 intro pins s σ H x v vl vu lo hi sl Q I rx hs pl pu h;obtain ⟨a,xs,rfl,hx,q⟩:=h;cases rx;obtain ⟨its,r,ht,hz⟩:=I.list hx;have hlen:=r.length;refine ⟨"list",_,slot_list_getitem.lookup,ht.isList.typeIs,?_⟩;refine wpAny_getItem_list_slice ht.isList hs pl pu .none (by simp) ?_ (by rw [yah]<;>omega);rw [zf1,<-hlen];refine ⟨.ref s.heap.objs.size,_,I.laid (t':=s.toks) (o:=.lst (zoG xs lo hi)) (fun b ob q=>yag _ q) (yaj _) ?_,rfl,q _ (I.hok.fresh (yaj _))⟩;exact ⟨yak (zfo xs lo hi) hz,_,0,(r.drop (HT.sIx xs.length 0 lo)).take (HT.sIx xs.length xs.length hi-HT.sIx xs.length 0 lo),yao _ rfl⟩
theorem zdg:zdw X (.builtin "len") (fun xs H Q=>∃p ys,xs=[.ref p]/\(SqL X.K H p ys\/SqT X.K H p ys)/\Q (.int ys.length) H):=by
 intro pins s σ H xs us Q I r h;obtain ⟨p,ys,rfl,hq,q⟩:=h;obtain ⟨u,rfl,rx⟩:=zeP r;cases rx;have hn:=zi6
 rcases hq with hq | hq
 ·obtain ⟨its,r',pl,hz⟩:=I.list hq;have hlen:=r'.length;exact Calls.call_len_list pl.isList (by simp only [yah]<;>omega) ⟨.int ys.length,H,I.tok _,⟨s.toks+1,by rw [yah,hlen]⟩,q⟩
 ·obtain ⟨its,r',pl,hz⟩:=I.tuple hq;have hlen:=r'.length;exact len_tuple pl (by simp only [yah]<;>omega) ⟨.int ys.length,H,I.tok _,⟨s.toks+1,by rw [yah,hlen]⟩,q⟩
theorem zhD:zdw X (.builtin "len") (fun xs H Q=>∃z,xs=[.str z]/\z.length<=sizeLine/\Q (.int z.length) H):=by
 intro pins s σ H xs us Q I r h;obtain ⟨z,rfl,hz,q⟩:=h;obtain ⟨u,rfl,t,rfl⟩:=zeP r;have hn:=zi6;exact len_str (by omega) ⟨.int z.length,H,I.tok _,⟨_,rfl⟩,q⟩
def zey:zdw X (.type "list") (fun xs H Q=>∃p ys,xs=[.ref p]/\(SqL X.K H p ys\/SqT X.K H p ys)/\∀l,H l=none->Q (.ref l) (upd H l (.lst ys))):=by
 intro pins s σ H xs us Q I r h;obtain ⟨p,ys,rfl,hq,q⟩:=h;obtain ⟨u,rfl,rx⟩:=zeP r;cases rx
 have fin:∀(its:List Value),Vals ys its->ys.length<=sizeLine->∀(h':Heap) (c':Nat),(∀b o',s.heap.get? b=some o'->h'.get? b=some o') →
   h'.get? s.heap.objs.size=some { cls:=.type "list",dict:=none,data:=.seq its.toArray c',slots:=#[] }->EP X pins σ Q (.ref s.heap.objs.size) { s with heap:=h' }:=fun its r' hz h' c' kp e =>
  ⟨.ref s.heap.objs.size,_,I.laid (t':=s.toks) kp (yaj _) (show zbL X.prog X.w _ h' _ (.lst ys) from ⟨hz,its,c',r',e⟩),rfl,q _ (I.hok.fresh (yaj _))⟩
 rcases hq with hq | hq
 ·obtain ⟨its,r',pl,hz⟩:=I.list hq;have hlen:=r'.length;obtain ⟨o,ho,hc,n,hd⟩:=pl.isList;exact call_list_seq p (.inl rfl) ho hc hd (fun h' c' kp e=>fin its r' hz h' c' kp e) (by simp only [yah]<;>omega)
 ·obtain ⟨its,r',pl,hz⟩:=I.tuple hq;have hlen:=r'.length;obtain ⟨o,ho,hc,n,hd⟩:=pl;exact call_list_seq p (.inr rfl) ho hc hd (fun h' c' kp e=>fin its r' hz h' c' kp e) (by simp only [yah]<;>omega)
def zd6:zdw X (.type "tuple") (fun xs H Q=>∃p ys,xs=[.ref p]/\((SqL X.K H p ys/\∀l,H l=none->Q (.ref l) (upd H l (.tup ys)))\/(SqT X.K H p ys/\Q (.ref p) H))):=by
 intro pins s σ H xs us Q I r h;obtain ⟨p,ys,rfl,h⟩:=h;obtain ⟨u,rfl,rx⟩:=zeP r;cases rx
 rcases h with ⟨hq,q⟩ | ⟨hq,q⟩
 ·obtain ⟨its,r',pl,hz⟩:=I.list hq;have hlen:=r'.length;refine call_tuple_list pl.isList (fun h' kp=>?_) (by simp only [yah]<;>omega);have I1:Inv X pins σ H { s with heap:=h' }:=I.kept (t':=s.toks) kp
  have I2:Inv X pins σ (upd H h'.objs.size (.tup ys)) { s with heap:=h'.push { cls:=.type "tuple",data:=.seq its.toArray } } :=
   I1.laid (t':=s.toks) (fun b o e=>yag _ e) (yaj _) (show zbL X.prog X.w _ _ _ (.tup ys) from ⟨hz,its,r',znY.new _ _⟩)
  exact ⟨.ref h'.objs.size,_,I2,rfl,q _ (I1.hok.fresh (yaj _))⟩
 ·obtain ⟨its,r',pl,hz⟩:=I.tuple hq;exact call_tuple_same pl ⟨.ref p,H,I,rfl,q⟩
noncomputable def tyV(K:PySem.W.Frag)(T:String)(x:V)(H:Hp):Prop:=match x with
 | .str _=>T = "str"
 | .int _=>T = "int"
 | .ref p=>(T = "list" /\ ∃xs,SqL K H p xs)\/(T = "tuple" /\ ∃o,K.lookup p=some o/\o.cls=.type "tuple" /\ o.dict=none) ∨
   (T = "dict" /\ ((∃kvs,H p=some (.dK kvs))\/∃kvs,H p=some (.dT kvs)))\/(T = "set" /\ ∃S n,H p=some (.set S n))
 | _=>False
def zq5(I:Inv X pins σ H s)(r:zbr x v)(ty:tyV X.K T x H) :
  s.TypeIs v T/\∀a,v=.ref a->∃ob,s.heap.get? a=some ob/\ob.dict=none:=by
 cases x with
 | str z =>
  obtain ⟨t,rfl⟩:=r;cases (show T = "str" from ty);exact ⟨typeIs_str s z t,fun _ e=>nomatch e⟩
 | int i =>
  obtain ⟨t,rfl⟩:=r;cases (show T = "int" from ty);exact ⟨ycM s i t,fun _ e=>nomatch e⟩
 | ref p =>
  cases r
  rcases ty with ⟨rfl,xs,hq⟩ | ⟨rfl,o,hk,hc,hd⟩ | ⟨rfl,hk⟩ | ⟨rfl,S,n,hk⟩
  ·obtain ⟨its,_,pl,_⟩:=I.list hq;refine ⟨pl.isList.typeIs,fun a e=>?_⟩;cases e;obtain ⟨o,n,e,c,hd,_⟩:=pl;exact ⟨o,e,hd⟩
  ·refine ⟨⟨o,I.kIn p o hk,hc⟩,fun a e=>?_⟩;cases e;exact ⟨o,I.kIn _ o hk,hd⟩
  ·have z:∃o,s.heap.get? p=some o/\o.ExactDict:=by
    rcases hk with ⟨kvs,hk⟩ | ⟨kvs,hk⟩
    ·obtain ⟨_,_,_,_,o,_,_,e,ex,_⟩:=I.hok p _ hk;exact ⟨o,e,ex⟩
    ·obtain ⟨_,_,_,_,o,_,_,e,ex,_⟩:=I.hok p _ hk;exact ⟨o,e,ex⟩
   obtain ⟨o,e,ex⟩:=z;refine ⟨⟨o,e,ex.1⟩,fun a e2=>?_⟩;cases e2;exact ⟨o,e,ex.2.1⟩
  ·obtain ⟨o,_,_,_,e,ex,_⟩:=I.hok p _ hk;refine ⟨⟨o,e,ex.1⟩,fun a e2=>?_⟩;cases e2;exact ⟨o,e,ex.2.1⟩
 | _=>exact False.elim ty
noncomputable def tBM(K:PySem.W.Frag)(T:String)(r:V->List V->Hp->VK->Prop)(to:TE)(t:TA):TE:=fun σ H Q=>to σ H fun x H1=>tyV K T x H1/\t σ H1 fun xs H2=>r x xs H2 Q
variable{o e:Expr}{es:List Expr}{to:TE}{t:TA}{name:Str}{apos cpos:Pos}{T id:String}{r:V->List V->Hp->VK->Prop}
def zk2(pa:PlainAttrs T)(slot:Slot T name id)(hty:typeOf (.builtin id)=pure (.type "method_descriptor"))(hm:MtR X id r)(ho:PE X o to)(ha:PA X (e::es) t)
  (hbase:attributeBase o name X.env (eval o X.env)=eval o X.env:=by rfl)
  (hfew:((backTo cpos (starEach (e::es) X.env)).all (fun x=>!x.1)&&(backToKw cpos (keywordEach [] X.env)).all (fun x=>x.1.isSome)
   && decide ((e::es).length+([]:List Keyword).length+(if ([]:List Keyword).isEmpty then 0 else 1)<30))=true:=by rfl)
  (hline:(apos.endLine == cpos.line)=true:=by rfl) (hs:starEach (e::es) X.env=(false,eval e X.env)::starEach es X.env:=by rfl) (hplain:(backTo cpos (starEach es X.env)).any (·.1)=false:=by rfl) :
  PE X (.Call (.Attribute o name apos) (e::es) [] cpos) (tBM X.K T r to t):=by
 intro pins s σ H Q I h;refine wpAny_Call_method_late hbase hfew hline rfl (thn (ho pins s σ H _ I h) fun v s1 ⟨x,H1,I1,r1,ty,q1⟩=>?_);obtain ⟨h1,h2⟩:=zq5 I1 r1 ty;refine ⟨T,id,pa,slot,hty,h1,h2,?_⟩;have hA:=ha cpos pins s1 σ H1 _ I1 q1;rw [hs] at hA ⊢;refine yco (by show (false||(backTo cpos (starEach es X.env)).any (·.1))=false;rw [hplain]<;>rfl) (yb4 ?_);exact thn hA fun us s2 ⟨vs,H2,I2,r2,q2⟩=>hm pins s2 σ H2 x vs v us Q I2 r1 r2 q2
end
noncomputable def MtM(X:Cx)(id:String)(r:V->List V->Hp->VK->Prop):Prop :=
 ∀(pins:Z3) (s:Shared) (σ:St) (H:Hp) (x:V) (xs:List V) (v:Value) (us:List Value) (Q:VK),Inv X pins σ H s->zbr x v->Vals xs us->r x xs H Q →
  wpAny (model X.prog X.w) X.A (call (.builtin id) (v::us)) (EP X pins σ Q) X.xe s
theorem Vals.one:∀{x:V} {us:List Value},Vals [x] us->∃u,us=[u]/\zbr x u
 | _,_,.cons r .nil=>⟨_,rfl,r⟩
theorem Vals.eraseIdx:∀{xs:List V} {us:List Value} (i:Nat),Vals xs us->Vals (xs.eraseIdx i) (us.eraseIdx i)
 | _,_,_,.nil=>.nil
 | _,_,0,.cons _ t=>t
 | _,_,i+1,.cons r t=>.cons r (Vals.eraseIdx i t)
theorem Vals.rep(h:Vals xs us):∀k:Nat,Vals (List.replicate k xs).flatten (List.replicate k us).flatten
 | 0=>.nil
 | k+1=>by
  rw [ya8,ya8,yby,yby];exact Vals.append h (Vals.rep h k)
theorem zhk{α:Type}:∀(l:List α) (i:Nat),(l.eraseIdx i).length<=l.length
 | [],_=>yaj _
 | _::_,0=>ybR _
 | _::r,i+1=>Nat.succ_le_succ (zhk r i)
theorem zff(its:List Value):∀(k:Nat) (acc:List Value),
  List.foldl (fun x1 x2=>x1++x2) acc.toArray (List.replicate k its.toArray)=(acc++(List.replicate k its).flatten).toArray
 | 0,acc=>by simp
 | k+1,acc=>by
  have e:acc.toArray++its.toArray=(acc++its).toArray:=by simp
  have e2:(acc++its)++(List.replicate k its).flatten=acc++(List.replicate (k+1) its).flatten:=by
   rw [ya8,yby,ybP]
  rw [<-e2,<-zff its k (acc++its),<-e,ya8,List.foldl_cons]
section
variable{X:Cx}{pins:Z3}{σ:St}{H:Hp}{s:Shared}{l b:Addr}{xs ys zs:List V}
def Inv.lset{its its':List Value}{n:Nat}{f:Array Value->Array Value}{t':Nat}(I:Inv X pins σ H s)(hH:H l=some (.lst xs))
  (e:s.heap.get? l=some { cls:=.type "list",data:=.seq its.toArray n }) (hf:f its.toArray=its'.toArray) (hv:Vals ys its') (hz:ys.length<=sizeLine) :
  Inv X pins σ (upd H l (.lst ys)) { s with heap:=s.heap.update l (Obj.mapSeq f),toks:=t' }:=by
 have q:=PySem.IsL.update e f;rw [hf] at q;refine I.write (x:=l) (e:=l) (by rw [hH];exact trivial) (.inl rfl) (fun b' u hb hu=>(Heap.get?_update_other s.heap (Obj.mapSeq f) (Ne.symm hb)).trans hu) ⟨_,q⟩ ?_;exact ⟨hz,its',_,hv,q⟩
def Inv.lnew(I:Inv X pins σ H s)(hv:Vals ys its)(hz:ys.length<=sizeLine) :
  Inv X pins σ (upd H s.heap.objs.size (.lst ys)) { s with heap:=s.heap.push { cls:=.type "list",data:=.seq its.toArray },toks:=t' } :=
 I.laid (fun _ _ q=>yag _ q) (yaj _) ⟨hz,its,0,hv,yao _ rfl⟩
theorem Inv.fresh(I:Inv X pins σ H s):H s.heap.objs.size=none:=I.hok.fresh (yaj _)
def Inv.lstM(I:Inv X pins σ H s)(hH:H l=some (.lst xs)):xs.length<=sizeLine/\∃(its:List Value) (n:Nat),Vals xs its/\xs.length=its.length/\s.heap.get? l=some { cls:=.type "list",data:=.seq its.toArray n }:=by
 obtain ⟨z,its,n,r,e⟩:=I.hok l _ hH;exact ⟨z,its,n,r,r.length,e⟩
theorem ziX(h:n<=sizeLine):Builtin.List.listTooLong n=false:=by
 unfold Builtin.List.listTooLong;exact yaW (by omega)
end
section
variable{X:Cx}
noncomputable def zps:V->List V->Hp->VK->Prop:=fun x vs H Q=>∃l xs y,x=.ref l/\vs=[y]/\H l=some (.lst xs)/\xs.length<sizeLine/\Q .non (upd H l (.lst (xs++[y])))
theorem zhh:MtM X "list.append" zps:=by
 intro pins s σ H x vs v us Q I rx rv h;obtain ⟨l,xs,y,rfl,rfl,hH,hz,q⟩:=h;cases rx;obtain ⟨u,rfl,ru⟩:=rv.one;obtain ⟨z,its,n,r,hl,e⟩:=I.lstM hH;refine ycc F.slot_list_append ⟨_,e,rfl⟩ F.entry_list_append (F.args_list_append_2 _ _) (PySem.list_append l its.toArray n u (by rw [yah];omega)) ⟨e,?_⟩;refine ⟨.non,_,I.lset (its':=its++[u]) hH e (by simp) (r.append (.cons ru .nil)) ?_,rfl,q⟩;rw [yam,ybh];omega
noncomputable def zrX:V->List V->Hp->VK->Prop:=fun x vs H Q=>∃l xs i k y,x=.ref l/\vs=[.int i]/\H l=some (.lst xs)/\-(2 ^ 63)<=i/\i<2 ^ 63/\seqIndex? i xs.length=some k/\xs[k]?=some y/\Q y (upd H l (.lst (xs.eraseIdx k)))
theorem zm9:MtM X "list.pop" zrX:=by
 intro pins s σ H x vs v us Q I rx rv h;obtain ⟨l,xs,i,k,y,rfl,rfl,hH,h1,h2,hk,hy,q⟩:=h;cases rx;obtain ⟨u,rfl,ru⟩:=rv.one;obtain ⟨t,rfl⟩:=ru;obtain ⟨z,its,n,r,hl,e⟩:=I.lstM hH;obtain ⟨w,hw,rw'⟩:=r.get hy
 refine ycc F.slot_list_pop ⟨_,e,rfl⟩ F.entry_list_pop (F.args_list_pop_2 _ _)
  (MeetsSeq.list_pop_at l its.toArray n i t k w (fitsIndex_both h1 h2) (by rw [yah,<-hl];exact hk) (by rw [<-ybi];exact hw) (by rw [yah];omega)) ⟨e,?_⟩
 refine ⟨y,_,I.lset (its':=its.eraseIdx k) hH e ?_ (r.eraseIdx k) ?_,rw',q⟩
 ·show its.toArray.eraseIdxIfInBounds k=(its.eraseIdx k).toArray;rw [List.eraseIdxIfInBounds_toArray]
 ·have:=zhk xs k;omega
noncomputable def zyP:R2:=fun x y H Q=>∃l b xs zs,x=.ref l/\y=.ref b/\H l=some (.lst xs)/\H b=some (.lst zs)/\xs.length+zs.length<=sizeLine/\∀p,H p=none->Q (.ref p) (upd H p (.lst (xs++zs)))
def zsp:OpR X (binaryOp .Add) zyP:=by
 intro pins s σ H x y v u Q I rx ry h;obtain ⟨l,b,xs,zs,rfl,rfl,hH,hB,hz,q⟩:=h;cases rx;cases ry;obtain ⟨z,its,n,r,hl,e⟩:=I.lstM hH;obtain ⟨z2,its2,n2,r2,hl2,e2⟩:=I.lstM hB;refine PySem.P.add_list e e2 ?_ (by rw [yah,yah];omega)
 have ea:its.toArray++its2.toArray=(its++its2).toArray:=by simp
 rw [ea];exact ⟨.ref _,_,I.lnew (t':=s.toks) (r.append r2) (by rw [yam];omega),rfl,q _ I.fresh⟩
noncomputable def zyM:R2:=fun x y H Q=>∃l k xs,x=.ref l/\y=.int k/\H l=some (.lst xs)/\-(2 ^ 63)<=k/\k<2 ^ 63/\xs.length*k.toNat<=sizeLine ∧
 ∀p,H p=none->Q (.ref p) (upd H p (.lst (List.replicate k.toNat xs).flatten))
def zie{α:Type}(xs:List α)(k:Nat):(List.replicate k xs).flatten.length=k*xs.length:=by
 induction k with
 | zero=>simp
 | succ k ih=>rw [ya8,yby,yam,ih,Nat.succ_mul,Nat.add_comm]
theorem zol:OpR X (binaryOp .Mult) zyM:=by
 intro pins s σ H x y v u Q I rx ry h;obtain ⟨l,k,xs,rfl,rfl,hH,h1,h2,hz,q⟩:=h;cases rx;obtain ⟨t,rfl⟩:=ry;obtain ⟨z,its,n,r,hl,e⟩:=I.lstM hH
 have hlen:its.toArray.size*k.toNat<=sizeLine:=by rw [yah,<-hl];exact hz
 have hcap:¬ its.toArray.size*k.toNat > (2 ^ 63-1) / 8:=by
  have:(sizeLine:Nat)<=(2 ^ 63-1) / 8:=by decide
  omega
 have hfit:¬ (!Builtin.List.listFitsIndex k)=true:=by
  rw [fitsIndex_both h1 h2];exact yaP
 have hlong:¬ Builtin.List.listTooLong (its.toArray.size*k.toNat)=true:=by
  rw [ziX hlen];exact yaP
 have hnew:List.foldl (fun x1 x2=>x1++x2) #[] (List.replicate (if its.toArray.isEmpty=true then 0 else k.toNat) its.toArray)=(List.replicate k.toNat its).flatten.toArray:=by
  have f0:∀m:Nat,List.foldl (fun x1 x2=>x1++x2) #[] (List.replicate m its.toArray)=(List.replicate m its).flatten.toArray:=fun m=>by
   have:=zff its m [];rwa [List.nil_append] at this
  rw [f0]
  cases its with
  | nil=>simp
  | cons a r'=>rw [if_neg (by simp)]
 refine yb5 (T:="list") (U:="int") (by decide) ⟨_,e,rfl⟩ (fun s'=>ycM s' k t) noFill_list_mul F.fills_int_mul ybX repeat_list F.slot_int_index.lookup
  (ycc ybX (ycM s k t) F.entry_int_rmul (yc2 _ _) (int___rmul___int_list k t l its.toArray n)
   ⟨e,rfl,⟨_,e,rfl⟩,ycc F.slot_list_mul ⟨_,e,rfl⟩ F.entry_list_mul (F.args_list_mul_2 _ _) (AutoListH.list___mul___list_int_3 l its.toArray n k t hfit hcap hlong) ⟨e,?_⟩⟩)
 rw [hnew];exact ⟨.ref _,_,I.lnew (t':=s.toks) (r.rep k.toNat) (by rw [zie,Nat.mul_comm];exact hz),rfl,q _ I.fresh⟩
end
end L2
namespace Att
open PySem PySem.W PySem.Calls PyProof.Rows
def zfd:∀(ns:List Int) (vs:List Value),WellAll P h vs (ns.map WData.int)->IntsAre vs ns:=by
 intro ns
 induction ns with
 | nil =>
  intro vs w;rw [List.map_nil] at w;cases w;exact .nil
 | cons n ns ih =>
  intro vs w;rw [yav] at w
  cases w with
  | cons a b =>
   cases a;exact .cons _ _ (ih _ b)
theorem zkH{l:OpenLaw}(hn:l.most=some n){P:Params}{h:Heap}
  (hpre:l.row.toRowW.claim.pre args=true) (hwl:WellAll P h vals args) :
  ∃a vs ns,vals=[Value.ref a]/\args=[WData.list (ns.map WData.int)]/\h.get? a=some { cls:=.type "list",data:=.seq vs.toArray }/\IntsAre vs ns/\ns.length<=n:=by
 have hsh:WShape.hasAll [] args [.list .int]=true:=(pre_splitW hpre).1;have hc:l.pre.holds [] { args:=args }=true:=(pre_splitW hpre).2;obtain ⟨d,r,rfl,h1,h2⟩:=hasAllW_cons hsh;obtain rfl:=hasAllW_nil h2;obtain ⟨xs,rfl,h3⟩:=hasW_list h1;obtain ⟨ns,rfl⟩:=items_int h3
 have hlen:ns.length<=n:=by
  unfold OpenLaw.pre at hc
  have h4:(WTm.not (.lt (.lit (.int (n:Int))) (.len (.arg 0)))).holds [] { args:=[.list (ns.map .int)] }=true:=by
   have h4:=(holds_andW hc).1;rwa [hn] at h4
  have h5:=condW_of h4 (w_not (w_lt w_lit (w_len_list (w_arg rfl))));rw [yad] at h5;refine Nat.le_of_not_lt fun q=>?_
  have q':(n:Int)<((ns.length:Nat):Int):=by omega
  first
   | (rw [yaB q'] at h5;exact absurd h5 (by decide))
   | (simp at h5;omega)
 cases hwl with
 | cons w1 w2 =>
  cases w2
  cases w1 with
  | list ho hall=>exact ⟨_,_,ns,rfl,rfl,ho,zfd ns _ hall,hlen⟩
def zkT(l:OpenLaw)(args:List WData):l.row.toRowW.claim.post args (.bool true) args=true :=
 postW_of (r:=l.row.toRowW) (X:=(true == true))
  (show WShape.has [] (.bool true) .bool=true by first | rfl | decide | simp [WShape.has,WShape.arms,WShape.armsAll])
  (show (WTm.eq .res (.lit (.bool true))).value [] { args:=args,res:=some (.bool true),after:=args }=some (.bool (true == true)) from w_eq_bool (w_res rfl) w_lit) rfl
def ziq{l:OpenLaw}{n:Nat}{q:Program}{loose:List Str}{XP:(Str->Option Value)->Heap->Prop}{YP:World->Heap->Prop}{d:DefRec}
  (hn:l.most=some n) (hdf:d.params.defaults=[])
  (call:∀(w:World) (s₀ s₁:Shared) (mg mb:Z6) (fa:Addr) (o:Obj) (pm cd doc:Value) (a:Addr) (vs:List Value) (ns:List Int),
   Ground q loose [] XP w s₀ mg mb s₁.heap->YP w s₁.heap →
   s₁.heap.get? fa=some o->o.data=.func (docDef d.name d.params d.body d.scope pm cd doc)->s₁.heap.CodeRec cd d.name->mg d.name=some (.ref fa) →
   s₁.heap.get? a=some { cls:=.type "list",data:=.seq vs.toArray }->IntsAre vs ns->ns.length<=n->s₁.gens=#[] →
   codeAny (model l.prog w) callerA (.call (.ref fa) ⟨[.ref a],[]⟩) (fun r s'=>r=.ok (.ret (.bool true))/\OldK s₁.heap s'.heap/\s'.os=s₁.os/\AllBare s'.gens) s₁) :
  WalkO q loose XP YP l.row.toRowW d [] (fun f vs=>PySem.call f vs):=by
 intro w s₀ s₁ mg mb G Y fa o pm cd doc dV kV ho hd hcd hD hmg hg args vals as hpre hlay hrd hwl hlo;obtain rfl:dV=.none:=Dflts.none hD hdf;obtain rfl:kV=.none:=Dflts.noKw hD;obtain ⟨a,vs,ns,rfl,rfl,hobj,hints,hlen⟩:=zkH hn hpre hwl;refine enter_call (ycw (call w s₀ s₁ mg mb fa o pm cd doc a vs ns G Y ho (fd_plain hd) hcd hmg hobj hints hlen hg) fun r s' hq=>?_);obtain ⟨rfl,h2,h3,h4⟩:=hq;exact ⟨.inl ⟨.bool true,.bool true,[],rfl,fun _=>rfl,.bool true,zkT l _,fun _=>⟨List.Pairwise.nil,fun _ hm=>(nomatch hm)⟩⟩,h2,h3,h4⟩
end Att
namespace L2
open PySem PySem.Spec PyProof.Rows
theorem zgI:∀{vs:List Value} {ns:List Int},IntsAre vs ns->Vals (ns.map V.int) vs
 | _,_,.nil=>.nil
 | _,_,.cons n t h=>.cons ⟨t,rfl⟩ (zgI h)
noncomputable def zt3(H:Hp):Prop:=∀b,H b=none\/∃o xs,H b=some (.frz o (.lst xs))
def znh{P:Program}{w:World}{K:PySem.W.Frag}{mg mb:Z6}{CX:CXT}{k:Nat}{fa a:Addr}{fd:FuncData}{x:Str}{sp:Sp}{s₁:Shared}{vs:List Value}{ns:List Int}
  (KX:K.In s₁.heap) (hns:s₁.heap.Ns mainGlobals mg) (hb:s₁.heap.Ns builtinsNs mb) (hbb:∀x:Str,x ≠ "__name__" -> mb x=bootBuiltins x) (hlim:s₁.heap.NoLimit) (hg:s₁.gens=#[])
  (ha:s₁.heap.get? a=some { cls:=.type "list",data:=.seq vs.toArray }) (hi:IntsAre vs ns) (hl:ns.length<=sizeLine) (hr:Room k callerA)
  (F:∀base:Heap,K.In base->base.Ns mainGlobals mg->FnOk P w K mg base CX k fa fd [x] sp) (hbind:∀(s:Shared) (u:Value),BindsTo s fd ⟨[u],[]⟩ [(x,u)])
  (hsp:∀H:Hp,zt3 H->SqL K H a (ns.map V.int)->sp [.ref a] H (fun v _=>v=.bl true) fun _ _ _=>False)
  (hCX:∀H e s',CX [] H s₁ (fun _ _ _=>False) e s'->False) :
  codeAny (model P w) callerA (.call (.ref fa) ⟨[.ref a],[]⟩) (fun r s'=>r=.ok (.ret (.bool true))/\OldK s₁.heap s'.heap/\s'.os=s₁.os/\AllBare s'.gens) s₁:=by
 have rv:=zgI hi;have lenV:=hi.length
 have core:∀H:Hp,zt3 H->SqL K H a (ns.map V.int)->HOk P w H s₁.heap->(∀b,H b≠none->b=a)->(H a≠none->K.lookup a=none) →
   codeAny (model P w) callerA (.call (.ref fa) ⟨[.ref a],[]⟩) (fun r s'=>r=.ok (.ret (.bool true))/\OldK s₁.heap s'.heap/\s'.os=s₁.os/\AllBare s'.gens) s₁:=by
  intro H hO hS hok hA hK;have zdQ:∀{b:Addr} {o:Obj},s₁.heap.get? b=some o->H b=none->(znv s₁.heap H).get? b=some o:=fun e n=>znu e n
  have noA:∀{b:Addr} {o:Obj} {es:Array DictEntry} {ep:Nat},s₁.heap.get? b=some o->o.data=.dict es ep->H b=none:=fun {b o es ep} e d=>by
   cases q:H b with
   | none=>rfl
   | some u =>
    have e':b=a:=hA b (by rw [q];simp);subst e';rw [ha] at e;cases e;have d':Data.seq vs.toArray _=Data.dict es ep:=d;cases d'
  have nsK:∀{b:Addr} {m:Z6},s₁.heap.Ns b m->(znv s₁.heap H).Ns b m:=fun {b m} ⟨o,es,ep,e,d,r⟩=>⟨o,es,ep,zdQ e (noA e d),d,r⟩
  have hKb:K.In (znv s₁.heap H):=fun b o e=>zdQ (KX b o e) (by
   cases q:H b with
   | none=>rfl
   | some u =>
    have e':b=a:=hA b (by rw [q];simp);subst e'
    rw [hK (by rw [q];simp)] at e;cases e)
  have hM:Mod K mg (znv s₁.heap H):=⟨hKb,nsK hns,⟨mb,nsK hb,hbb⟩,let ⟨mc,h1,h2⟩:=hlim;⟨mc,nsK h1,h2⟩⟩;have e0:Env0 P w K mg (znv s₁.heap H) callerA [] s₁ H:=⟨rfl,hM,fun b o e=>zpM e,Nat.le_of_eq (zlE _ _),trivial,fun b hb=>absurd (show b∈([]:List Addr) from hb) (by simp),hok,.of_eq hg⟩;refine ycw ((F _ hKb (nsK hns)).run callerA [] s₁ H ⟨[.ref a],[]⟩ [.ref a] [.ref a] _ _ hr e0 (hbind s₁ (.ref a)) (.cons rfl .nil) (hsp H hO hS)) fun r s' h=>?_
  cases r with
  | error e=>exact (hCX H e s' h).elim
  | ok fl =>
   cases fl with
   | next=>exact False.elim h
   | brk=>exact False.elim h
   | cont=>exact False.elim h
   | ret u =>
    obtain ⟨v,H',os,bare,un,hok',r',q⟩:=h;have q':v=.bl true:=q;subst q';obtain rfl:u=Value.bool true:=r';refine ⟨rfl,OldK.of_keep fun b o e=>?_,os,bare⟩
    cases q:H b with
    | none=>exact un.keep b o e q (by intro z;exact absurd (show b∈([]:List Addr) from z) (by simp)) (by simp)
    | some u =>
     rcases hO b with z | ⟨ob,xs,z⟩
     ·rw [q] at z;cases z
     ·have z2:=un.frzs b ob _ z;obtain ⟨e1,_⟩:=hok b _ z;obtain ⟨e2,_⟩:=hok' b _ z2;rw [e] at e1;cases e1;exact e2
 cases hk:K.lookup a with
 | some o =>
  have e:=KX a o hk;rw [ha] at e;cases e;refine core (fun _=>none) (fun _=>.inl rfl) (.inr ⟨_,vs.toArray,_,hk,rfl,rfl,rfl,by rw [yah,lenV];exact hl,by simpa using rv⟩) (fun b u z=>by have z':(none:Option HO)=some u:=z;cases z') (fun b z=>absurd rfl z) fun z=>absurd rfl z
 | none =>
  refine core (fun b=>if b=a then some (.frz { cls:=.type "list",data:=.seq vs.toArray } (.lst (ns.map V.int))) else none) (fun b=>?_) (.inl (.inr ⟨{ cls:=.type "list",data:=.seq vs.toArray },if_pos rfl⟩)) (fun b u z=>?_) (fun b z=>?_) fun _=>hk
  ·by_cases hb:b=a
   ·exact .inr ⟨_,_,if_pos hb⟩
   ·exact .inl (if_neg hb)
  ·by_cases hb:b=a
   ·have z':=(if_pos hb).symm.trans z;cases z';subst hb;exact ⟨ha,by rw [yad];exact hl,vs,_,rv,ha⟩
   ·have z':=(if_neg hb).symm.trans z;cases z'
  ·by_cases hb:b=a
   ·exact hb
   ·exact absurd (if_neg hb) z
def zoN{l:PySem.W.OpenLaw}{n k:Nat}{d:DefRec}{K:Params->PySem.W.Frag}{CX:World->CXT}{sp:World->Sp}
  (hn:l.most=some n) (hn2:n<=sizeLine) (hdf:d.params.defaults=[]) (hr:Room k callerA)
  (hY:∀(w:World) (h:Heap),YP w h->(K w.params).In h)
  (F:∀(w:World) (mg:Z6) (fa:Addr) (h:Heap),(K w.params).In h->h.Ns mainGlobals mg->mg d.name=some (.ref fa) →
   ∃fd:FuncData,(∀(s:Shared) (u:Value),BindsTo s fd ⟨[u],[]⟩ [(x,u)]) ∧
    ∀base:Heap,(K w.params).In base->base.Ns mainGlobals mg->FnOk l.prog w (K w.params) mg base (CX w) k fa fd [x] (sp w))
  (hsp:∀(w:World) (H:Hp) (a:Addr) (ns:List Int),ns.length<=n->zt3 H->SqL (K w.params) H a (ns.map V.int)->sp w [.ref a] H (fun v _=>v=.bl true) fun _ _ _=>False)
  (hCX:∀(w:World) (H:Hp) (s:Shared) (e:Value) (s':Shared),CX w [] H s (fun _ _ _=>False) e s'->False) :
  PySem.W.WalkO q loose XP YP l.row.toRowW d [] (fun f vs=>PySem.call f vs):=by
 refine Att.ziq hn hdf fun w s₀ s₁ mg mb fa o pm cd doc a vs ns G Y ho hd hcd hmg hobj hints hlen hg=>?_
 have KX:=hY w _ Y;obtain ⟨fd,hb,hF⟩:=F w mg fa _ KX G.T.g hmg;exact znh KX G.T.g G.T.b G.T.builtins G.T.nolimit hg hobj hints (yak hlen hn2) hr hF hb (fun H hO hS=>hsp w H a ns hlen hO hS) fun H e s'=>hCX w H s₁ e s'
noncomputable def zbz(s:Stmt):Arguments:=match s with
 | .FunctionDef _ a _ _ _ _ _ _ _ _=>a
 | _=>{ posonlyargs:=[],args:=[],vararg:=none,kwonlyargs:=[],kw_defaults:=[],kwarg:=none,defaults:=[] }
noncomputable def zbm(s:Stmt):List Stmt:=match s with
 | .FunctionDef _ _ b _ _ _ _ _ _ _=>b
 | _=>[]
noncomputable def zac(s:Stmt):Scope:=match s with
 | .FunctionDef _ _ _ _ _ _ sc _ _ _=>sc
 | _=>{ kind:=.function,names:=[],isGenerator:=false,isCoroutine:=false }
structure Fun(K:PySem.W.Frag)(x qual:Str)(st:Stmt)(f:Addr)(fd:FuncData):Prop where
 ex:∃(oc:Value) (od:Option Addr) (kV doc pm:Value) (an:Option Addr) (cdv ct:Value) (osl:Array (Option Value)),
  fd=PySem.W.fnOf x qual (zbz st) (zbm st) (zac st) .none kV doc pm an cdv ct/\K.lookup f=some ⟨oc,od,.func fd,osl⟩/\PySem.W.codeIn K cdv qual=true
 kp:PySem.W.keepIn K (.ref f)=true
section
variable{P:Program}{w:World}{K:PySem.W.Frag}{mg:Z6}{base:Heap}
def Fun.binds{x qual:Str}{st:Stmt}{f:Addr}{fd:FuncData}{ps:List Str}(F:Fun K x qual st f fd)
  (h:∀(kV doc pm:Value) (an:Option Addr) (cdv ct:Value) (us:List Value),us.length=ps.length->bindArgs (PySem.W.fnOf x qual (zbz st) (zbm st) (zac st) .none kV doc pm an cdv ct) ⟨us,[]⟩=pure (ps.zip us)):zce K fd ps []:=by
 obtain ⟨oc,od,kV,doc,pm,an,cdv,ct,osl,rfl,lk,hcd⟩:=F.ex;exact .all (h kV doc pm an cdv ct)
def zoy{x qual:Str}{st:Stmt}{f:Addr}{oc:Value}{od an:Option Addr}{osl:Array (Option Value)}{kV doc pm cdv ct:Value}(l:K.lookup f=some ⟨oc,od,.func (PySem.W.fnOf x qual (zbz st) (zbm st) (zac st) .none kV doc pm an cdv ct),osl⟩)
  (c:PySem.W.codeIn K cdv qual=true) (k:PySem.W.keepIn K (.ref f)=true):Fun K x qual st f (PySem.W.fnOf x qual (zbz st) (zbm st) (zac st) .none kV doc pm an cdv ct):=⟨⟨oc,od,kV,doc,pm,an,cdv,ct,osl,rfl,l,c⟩,k⟩
end
def znn{A B:Prop}(h:B):if false=true then A else B:=by
 rw [if_neg yaP];exact h
def znm{A B:Prop}(h:A):if true=true then A else B:=by
 rw [if_pos rfl];exact h
def zj3(h:∀y∈scope.names,y.2=.free->∃c,env.cells.lookup y.1=some c) :
  ∃cl,closureFor scope env=pure cl/\(∀y c,cl.lookup y=some c->env.cells.lookup y=some c)/\∀y,(y,NameKind.free)∈scope.names->∃c,cl.lookup y=some c:=by
 unfold closureFor
 have key:∀(l:List (Str×NameKind)) (cs:List (Str×Addr)),(∀y∈l,y.2=.free->∃c,env.cells.lookup y.1=some c)->(∀y c,cs.lookup y=some c->env.cells.lookup y=some c) →
   ∃cl,(forIn l cs fun (x:Str×NameKind) (r:List (Str×Addr))=>(if (x.2 == NameKind.free)=true then (do let c ← cellOf env x.1;pure (ForInStep.yield ((x.1,c)::r))) else pure (ForInStep.yield r):Sem (ForInStep (List (Str×Addr)))))=pure cl ∧
    (∀y c,cl.lookup y=some c->env.cells.lookup y=some c)/\(∀y,(y,NameKind.free)∈l->∃c,cl.lookup y=some c)/\(∀y c,cs.lookup y=some c->∃c',cl.lookup y=some c'):=by
  intro l
  induction l with
  | nil=>intro cs _ hc;exact ⟨cs,rfl,hc,fun y hy=>by simp at hy,fun y c e=>⟨c,e⟩⟩
  | cons p l ih =>
   intro cs hl hc;obtain ⟨n,k⟩:=p
   by_cases hk:(k == NameKind.free)=true
   ·have ek:k=.free:=eq_of_beq hk;obtain ⟨c,ec⟩:=hl (n,k) yaA ek
    obtain ⟨cl,e1,e2,e3,e4⟩:=ih ((n,c)::cs) (fun y hy=>hl y (yaw _ hy)) (fun y c' e=>by
     rw [yaz] at e
     cases hq:y == n with
     | true=>rw [hq] at e;cases e;rw [eq_of_beq hq];exact ec
     | false=>rw [hq] at e;exact hc y c' e)
    refine ⟨cl,?_,e2,fun y hy=>?_,fun y c' e=>?_⟩
    ·rw [ycP];show ((if (k == NameKind.free)=true then _ else _) >>= _)=_;rw [if_pos hk]
     have ecell:cellOf env n=pure c:=by unfold cellOf;rw [ec]
     show (cellOf env n >>= _) >>= _=_;rw [ecell];simpa using e1
    ·rcases yau.mp hy with z | hy
     ·cases z;exact e4 n c (by rw [yaz];simp)
     ·exact e3 y hy
    ·cases hq:y == n with
     | true=>exact e4 y c (by rw [yaz,hq])
     | false=>exact e4 y c' (by rw [yaz,hq];exact e)
   ·obtain ⟨cl,e1,e2,e3,e4⟩:=ih cs (fun y hy=>hl y (yaw _ hy)) hc;refine ⟨cl,?_,e2,fun y hy=>?_,e4⟩
    ·rw [ycP];show ((if (k == NameKind.free)=true then _ else _) >>= _)=_;rw [if_neg hk];simpa using e1
    ·rcases yau.mp hy with z | hy
     ·cases z;exact absurd rfl hk
     ·exact e3 y hy
 obtain ⟨cl,e1,e2,e3,_⟩:=key scope.names [] h (fun y c e=>by simp at e);refine ⟨cl,?_,e2,e3⟩;show ((forIn scope.names [] _:Sem (List (Str×Addr))) >>= _)=_;have e1':=congrArg (fun m=>m >>= (pure:List (Str×Addr)->Sem (List (Str×Addr)))) e1;simpa using e1
noncomputable def PIf(X:Cx)(ifs:List Expr)(t:TT):Prop :=
 ∀(pins:Z3) (s:Shared) (σ:St) (H:Hp) (Q:Bool->Hp->Prop),Inv X pins σ H s->t σ H Q →
  wpAny (model X.prog X.w) X.A (forIn ifs true fun c r=>if r=true then do let ok ← isTrue c X.env (eval c X.env);pure (ForInStep.yield ok) else pure (ForInStep.yield r)) (TP X pins σ Q) X.xe s
noncomputable def zyx:TT:=fun _ H Q=>Q true H
def zpB:PIf X [] zyx:=fun _ _ _ H _ I h=>wpAny_tests_nil ⟨H,I,h⟩
def zpA(h:PT X c t):PIf X [c] t:=fun pins s σ H Q I hw=>wpAny_tests_one (h pins s σ H Q I hw)
theorem zeq{scope:Scope}{env:Env}:∀{names:List (Str×NameKind)} {y:Str},(y,NameKind.free)∈names->(∀z∈names,z.1=y->z.2=.free) →
  (names.map fun (n,k)=>if (k == NameKind.free&&env.scope.kind == .function&&env.kindOf n == some .cell) then (n,NameKind.cell) else (n,k)).lookup y=some .cell ∨
  (names.map fun (n,k)=>if (k == NameKind.free&&env.scope.kind == .function&&env.kindOf n == some .cell) then (n,NameKind.cell) else (n,k)).lookup y=some .free
 | [],_,h,_=>by simp at h
 | (n,k)::r,y,h,u=>by
  rw [yav];show List.lookup y ((if (k == NameKind.free&&env.scope.kind == .function&&env.kindOf n == some .cell)=true then (n,NameKind.cell) else (n,k))::_)=_\/List.lookup y ((if (k == NameKind.free&&env.scope.kind == .function&&env.kindOf n == some .cell)=true then (n,NameKind.cell) else (n,k))::_)=_
  cases hq:y == n with
  | true =>
   have e:n=y:=(eq_of_beq hq).symm;have ek:k=.free:=u (n,k) yaA e
   by_cases hc:(k == NameKind.free&&env.scope.kind == .function&&env.kindOf n == some .cell)=true
   ·rw [if_pos hc];left;simp [yaz,hq]
   ·rw [if_neg hc];right;simp [yaz,hq,ek]
  | false =>
   have hy:(y,NameKind.free)∈r:=by
    rcases yau.mp h with z | z
    ·cases z;simp at hq
    ·exact z
   have ih:=zeq (scope:=scope) (env:=env) hy fun z hz=>u z (yaw _ hz)
   by_cases hc:(k == NameKind.free&&env.scope.kind == .function&&env.kindOf n == some .cell)=true
   ·rw [if_pos hc];simpa [yaz,hq] using ih
   ·rw [if_neg hc];simpa [yaz,hq] using ih
def Inv.track(I:Inv X pins σ H s)(hn:H D=none)(h1:X.s₀.heap.objs.size<=D)(h2:D≠X.env.locals)(h3:∀x c,X.env.cells.lookup x=some c->c≠D)(h4:∀p∈X.pn++pins,p.1≠D)
  (new:zbL X.prog X.w (upd H D o) s.heap D o):Inv X pins σ (upd H D o) s:=by
 have nD:∀b u,H b=some u->b≠D:=fun b u e=>zav e hn
 obtain ⟨h',g',d',t',o'⟩:=s;refine I.step (h':=h') (g':=g') (d':=d') (t':=t') (ch:=[D]) (fun b hb=>?_) (fun b o _ _ _ e _=>e) (fun b o _ _ _ e _=>⟨o.slots,e⟩) (fun b o hc e n=>?_) (fun b o _ e=>⟨o,e⟩) (fun b xs e=>?_) (fun b o u e=>?_) (fun b ps e=>?_) (fun m hm=>hm) (fun b u e=>?_) I.bare
 ·have e:b=D:=by simpa using hb
  subst e;exact ⟨.inr h1,h2,h3,h4⟩
 ·rw [zao (fun z=>hc (by simp [z]))];exact n
 ·rw [zao (nD _ _ e)];exact e
 ·rw [zao (nD _ _ e)];exact e
 ·exact ⟨#[],by rw [zao (nD _ _ e),e];simp⟩
 ·by_cases hb:b=D
  ·subst hb;rw [zay] at e;cases e;exact new
  ·rw [zao hb] at e
   exact (I.hok b u e).stay (fun _ _ _ q=>q) (fun c q=>by rw [zao (nD _ _ q)];exact q) fun c xs q=>by rw [zao (nD _ _ q)];exact q
section
variable{X:Cx}{elt iter:Expr}{x:Str}{px pos:Pos}{ifs:List Expr}{scope:Scope}{caps:List (Str×Nat)}{wi:TI}{tt:TT}{te:TE}
noncomputable abbrev lob(its:List Value)(k:Nat):Obj:={ cls:=.type "list",data:=.seq its.toArray k }
end
section
variable{prog:Program}{w:World}{A:Around}{R:Result->Shared->Prop}{s:Shared}
theorem znd(I:Nat->Shared->Prop)
  (turn:∀n s,I n s->wpAny (model prog w) A (pyNext it) (fun r s₁=>match r with
   | none=>R (.ok .next) s₁
   | some v=>wpAny (model prog w) A (letOwnedTupleGo target it v) (fun _ s₀=>wpAny (model prog w) A (assign target env v) (fun _ s₂ =>
     wpAny (model prog w) A (forIn ifs true fun c r=>if r=true then do let ok ← isTrue c env (eval c env);pure (ForInStep.yield ok) else pure (ForInStep.yield r)) (fun ok s₃ =>
      if ok=true then wpAny (model prog w) A (eval elt env) (fun x s₄ =>
       wpAny (model prog w) A (call (.builtin "list.append") [acc,x]) (fun _ s₅=>∃m,m<n/\I m s₅) (notedBy (model prog w) A env fun e s'=>R (.error e) s') s₄) (notedBy (model prog w) A env fun e s'=>R (.error e) s') s₃
      else ∃m,m<n/\I m s₃) (notedBy (model prog w) A env fun e s'=>R (.error e) s') s₂) (notedBy (model prog w) A env fun e s'=>R (.error e) s') s₀) (notedBy (model prog w) A env fun e s'=>R (.error e) s') s₁) (notedBy (model prog w) A env fun e s'=>R (.error e) s') s)
  (n:Nat) (h:I n s):codeAny (model prog w) A (.compLoop (.ListComp elt [⟨target,iter,ifs,0⟩] scope pos) 0 it acc env) R s:=by
 refine codeAny_loop rfl I (fun n s hI=>?_) n h;show wpAny _ A ((compTurn (.ListComp elt [⟨target,iter,ifs,0⟩] scope pos) 0 it acc env).onRaise (fun x=>do noteFrame x env;theTreesLotGoes x)) _ _ s;refine wpAny_noted ?_;rw [compTurn_list];refine yaa (yc6 (yaa (ybE (turn n s hI) (fun r s₁ h₁=>?_) fun _ _ h'=>h')))
 cases r with
 | none=>exact yae h₁
 | some v =>
  refine yaa (ybE h₁ (fun _ s₀ h₀=>?_) fun _ _ h'=>h');refine yaa (ybE h₀ (fun _ s₂ h₂=>yaa (ybE h₂ (fun ok s₃ h₃=>?_) fun _ _ h'=>h')) fun _ _ h'=>h')
  cases ok with
  | false=>exact yae ⟨rfl,h₃⟩
  | true =>
   exact yaa (yaa (ybE h₃ (fun x s₄ h₄=>yaa (ybE h₄ (fun _ s₅ h₅=>yae (yae ⟨rfl,h₅⟩)) fun _ _ h'=>h')) fun _ _ h'=>h'))
end
theorem za4:∀(names:List (Str×NameKind)) (n:Nat) (acc:List (Str×Addr)),cellsFrom n names acc=cellsFrom n names []++acc
 | [],_,_=>rfl
 | (x,k)::r,n,acc=>by
  unfold cellsFrom;split
  ·rw [za4 r (n+1) ((x,n)::acc),za4 r (n+1) [(x,n)]];simp
  ·exact za4 r n acc
theorem zcN:∀(names:List (Str×NameKind)) (n:Nat) {x:Str} {c:Addr},(x,c)∈cellsFrom n names []->(x,NameKind.cell)∈names
 | [],_,_,_,h=>by cases h
 | (y,k)::r,n,x,c,h=>by
  unfold cellsFrom at h;split at h
  ·rename_i hk;rw [za4] at h
   rcases ya3.mp h with h | h
   ·exact yaw _ (zcN r _ h)
   ·rw [yaF] at h;cases h;rw [ycq.mp hk];exact yaA
  ·exact yaw _ (zcN r _ h)
theorem zb2{α:Type}{x:Str}:∀{l m:List (Str×α)},(l++m).lookup x=(l.lookup x).or (m.lookup x)
 | [],m=>rfl
 | (y,a)::l,m=>by
  rw [List.cons_append,yaz,yaz]
  cases x == y with
  | true=>rfl
  | false=>exact zb2
theorem zbZ:∀(names:List (Str×NameKind)) (n:Nat) {x:Str},(x,NameKind.cell)∈names->∃c,(cellsFrom n names []).lookup x=some c
 | [],_,_,h=>by cases h
 | (y,k)::r,n,x,h=>by
  unfold cellsFrom;split
  ·rename_i hk;rw [za4,zb2]
   rcases yau.mp h with e | h
   ·cases e
    cases hq:(cellsFrom (n+1) r []).lookup y with
    | some c=>exact ⟨c,rfl⟩
    | none=>exact ⟨n,by simp [yaz]⟩
   ·obtain ⟨c,e⟩:=zbZ r (n+1) h;rw [e];exact ⟨c,rfl⟩
  ·rename_i hk
   rcases yau.mp h with e | h
   ·cases e;exact absurd rfl hk
   ·exact zbZ r n h
def zcr{M:Model}{A:Around}{E:Z5}{s:Shared}{scope:Scope}{globals:Addr}{closure:List (Str×Addr)}{qual:Str}{func:Option Addr}{code:Value}{outer:Env}{builtins:Addr}{Q:Env->Shared->Prop}
  (hQ:∀h',h'.Ns s.heap.objs.size (fun _=>none)->(∀b o,s.heap.get? b=some o->h'.get? b=some o)->CellsOk h' (s.heap.objs.size+1) (cellsFrom (s.heap.objs.size+1) scope.names []) →
   Q (newEnv scope s.heap.objs.size globals (cellsFrom (s.heap.objs.size+1) scope.names []++closure) qual func code (some outer) builtins) { s with heap:=h' }) :
  wpAny M A (newFunctionEnv scope globals closure [] qual func code (some outer) builtins) Q E s:=by
 simp only [newFunctionEnv,Option.isSome_some,ybT];refine yaa (wpAny_alloc ?_);refine yaa (wpAny_layCells _ (fun name kind cells=>by cases hkc:kind == NameKind.cell<;>simp [hkc]) _ _ _ _ ?_);have ok:=cellsFrom_ok scope.names (s.heap.push { cls:=.type "dict",data:=.dict #[] }) (s.heap.objs.size+1) [] ⟨fun _ _ hm=>(nomatch hm),List.Pairwise.nil⟩ (by rw [ya0];exact yaj _);rw [ya0] at ok;rw [show ({ s with heap:=s.heap.push { cls:=.type "dict",data:=.dict #[] } }:Shared).heap.objs.size=s.heap.objs.size+1 from ya0 ..];rw [za4];simp only [List.forIn_nil];refine yaa (yae (yae ?_));exact hQ _ ((Heap.Ns.new s.heap (.type "dict")).keeps (pushCells_keeps _ _)) (fun b o e=>pushCells_keeps _ _ b o (yag _ e)) ok
structure CompScopeG(sc scope:Scope)(N:List Str)(xs:List Str)(caps:List (Str×Nat)):Prop where
 nd:(scope.names.map (·.1)).Nodup
 kind:scope.kind=.function
 names:∀y∈scope.names,y.2=.local->scope.names.lookup y.1=some .local
 free:∀y∈scope.names,y.2=.free->sc.names.lookup y.1=some .cell\/sc.names.lookup y.1=some .free
 cap:∀p∈caps,N[p.2]?=some p.1/\(p.1,NameKind.free)∈scope.names/\sc.names.lookup p.1≠some .local
 uniq:∀p∈caps,∀z∈scope.names,z.1=p.1->z.2=.free
noncomputable def zba(X:Cx)(xs:List Str)(caps:List (Str×Nat))(scope:Scope)(cl:List (Str×Addr))(C:Addr)(s:Shared)(H:Hp)(ex:List Addr):Cx :=
 { X with N:=xs++caps.map (·.1),s₀:=s,H₀:=H,env:=compEnvC scope cl C X.env,outer:=X.stack,ex:=ex,fn:=fun x=>decide (scope.names.lookup x=some .cell),pn:=[],xe:=fun _ _=>False }
noncomputable abbrev capσ(σ:St)(n:Nat)(caps:List (Str×Nat)):St:=List.replicate n none++caps.map fun p=>(σ[p.2]?).join
noncomputable def ziC(wi:TI)(g:TG)(tt:TT)(te:TE)(n:Nat)(caps:List (Str×Nat)):TE:=fun σ H Q=>wi σ H fun J H1=>∃W:Nat->Nat->List V->St->Hp->Prop,(∃m,W 0 m [] (capσ σ n caps) H1)/\∀i m ys σ' H,W i m ys σ' H →
 ys.length<=sizeLine/\((J.stop i H/\∀p,H p=none->Q (.ref p) (upd H p (.lst ys))) ∨
 (J.go i H/\∀x H',J.yld i H x H'->g x σ' H' fun σ2 H2=>tt σ2 H2 fun ok H3=>if ok=true then te σ2 H3 fun y H4=>∃m',m'<m/\W (i+1) m' (ys++[y]) σ2 H4 else ∃m',m'<m/\W (i+1) m' ys σ2 H3))
section
variable{X:Cx}{elt iter tg:Expr}{xs:List Str}{pos:Pos}{ifs:List Expr}{scope:Scope}{caps:List (Str×Nat)}{wi:TI}{g:TG}{tt:TT}{te:TE}
structure OwnC(X:Cx)(scope:Scope)(lo:Nat)(h:Heap)(cl:List (Str×Addr)):Prop where
 sort:∀y c,cl.lookup y=some c->X.env.cells.lookup y=some c\/(h.IsCell c none/\lo<=c)
 inj:∀y z c,cl.lookup y=some c->cl.lookup z=some c->y=z
 has:∀y,((y,NameKind.free)∈scope.names\/(y,NameKind.cell)∈scope.names)->∃c,cl.lookup y=some c
 own:∀y c,scope.names.lookup y=some .cell->cl.lookup y=some c->lo<=c
 free:∀y,(y,NameKind.free)∈scope.names->∃c,cl.lookup y=some c/\X.env.cells.lookup y=some c
def zg5(h:(relabel scope env).names.lookup y=some .cell\/(relabel scope env).names.lookup y=some .free):(y,NameKind.free)∈scope.names\/(y,NameKind.cell)∈scope.names:=by
 have go:∀k,(relabel scope env).names.lookup y=some k->(k=.cell\/k=.free)->(y,NameKind.free)∈scope.names\/(y,NameKind.cell)∈scope.names:=fun k e hk=>by
  have hm:=yaK e;obtain ⟨⟨n,k0⟩,hp,e2⟩:=yat.mp hm
  by_cases hq:(k0 == .free&&env.scope.kind == .function&&env.kindOf n == some .cell)=true
  ·have e3:(n,NameKind.cell)=(y,k):=by rw [<-e2];show _=if _ then _ else _;rw [if_pos hq]
   cases e3
   have:k0=.free:=by simp only [yac] at hq;exact eq_of_beq hq.1.1
   subst this;exact .inl hp
  ·have e3:(n,k0)=(y,k):=by rw [<-e2];show _=if _ then _ else _;rw [if_neg hq]
   cases e3
   rcases hk with rfl | rfl
   ·exact .inr hp
   ·exact .inl hp
 rcases h with h | h
 ·exact go _ h (.inl rfl)
 ·exact go _ h (.inr rfl)
theorem zhe:∀{l:List (Str×NameKind)},(l.map (·.1)).Nodup->∀{x:Str} {a b:NameKind},(x,a)∈l->(x,b)∈l->a=b
 | [],_,_,_,_,h,_=>by cases h
 | p::l,nd,x,a,b,h,h'=>by
  rw [yav,ybO] at nd
  rcases yau.mp h with h | h<;>rcases yau.mp h' with h' | h'
  ·rw [<-h'] at h;exact (Prod.mk.inj h).2
  ·exact absurd (yat.mpr ⟨_,h',by rw [<-h]⟩) nd.1
  ·exact absurd (yat.mpr ⟨_,h,by rw [<-h']⟩) nd.1
  ·exact zhe nd.2 h h'
def zk3{X:Cx}{scope:Scope}{lo n:Nat}{h:Heap}{cl:List (Str×Addr)}(nd:(scope.names.map (·.1)).Nodup)(hn:lo<=n)(hinj:∀x y c,X.env.cells.lookup x=some c->X.env.cells.lookup y=some c->x=y)
  (hcl:∀y c,cl.lookup y=some c->X.env.cells.lookup y=some c) (hlo:∀y c,X.env.cells.lookup y=some c->c<lo) (hhas:∀y,(y,NameKind.free)∈scope.names->∃c,cl.lookup y=some c) (ok:CellsOk h n (cellsFrom n scope.names [])) :
  OwnC X scope lo h (cellsFrom n scope.names []++cl):=by
 have sort:∀y c,(cellsFrom n scope.names []++cl).lookup y=some c->((cellsFrom n scope.names []).lookup y=some c)\/((cellsFrom n scope.names []).lookup y=none/\cl.lookup y=some c):=fun y c e=>by
  rw [zb2] at e
  cases hq:(cellsFrom n scope.names []).lookup y with
  | some c'=>rw [hq] at e;exact .inl e
  | none=>rw [hq] at e;exact .inr ⟨rfl,e⟩
 refine ⟨fun y c e=>?_,fun y z c e e'=>?_,fun y hy=>?_,fun y c hy e=>?_,fun y hy=>?_⟩
 ·rcases sort y c e with z | ⟨_,z⟩
  ·have:=ok.empty y c (yaK z);exact .inr ⟨this.1,yak hn this.2⟩
  ·exact .inl (hcl y c z)
 ·rcases sort y c e with a | ⟨_,a⟩<;>rcases sort z c e' with b | ⟨_,b⟩
  ·exact name_of_addr ok.apart (yaK a) (yaK b)
  ·have h1:=(ok.empty y c (yaK a)).2;have h2:=hlo z c (hcl z c b);exact absurd (yap h2 (yak hn h1)) (ya5 _)
  ·have h1:=(ok.empty z c (yaK b)).2;have h2:=hlo y c (hcl y c a);exact absurd (yap h2 (yak hn h1)) (ya5 _)
  ·exact hinj y z c (hcl y c a) (hcl z c b)
 ·rw [zb2]
  cases hq:(cellsFrom n scope.names []).lookup y with
  | some c=>exact ⟨c,rfl⟩
  | none =>
   rcases hy with hy | hy
   ·exact hhas y hy
   ·obtain ⟨c,e⟩:=zbZ scope.names n hy;rw [hq] at e;cases e
 ·obtain ⟨c',e'⟩:=zbZ scope.names n (yaK hy);rw [zb2,e'] at e;have:c'=c:=Option.some.inj e;subst this;exact yak hn (ok.empty y c' (yaK e')).2
 ·obtain ⟨c,e⟩:=hhas y hy;refine ⟨c,?_,hcl y c e⟩;rw [zb2]
  cases hq:(cellsFrom n scope.names []).lookup y with
  | some c' =>
   have:=zcN scope.names n (yaK hq);cases zhe nd hy this
  | none=>exact e
theorem zlV(S:CompScopeG X.env.scope scope X.N xs caps)(hu:∀p∈caps,∀z∈scope.names,z.1=p.1->z.2=.free)
  (I:Inv X pins σ H s) (hcl:OwnC X scope s.heap.objs.size s'.heap cl)
  (hf:∀b∈fp,zmi X pins H b) (hlt:∀b∈fp,b<s.heap.objs.size) (hC:s.heap.objs.size<=C) (ho:s'.os=s.os) (hg:s'.gens=s.gens) (hk:∀b o,s.heap.get? b=some o->s'.heap.get? b=some o) (hn:s'.heap.Ns C (fun _=>none)) :
  Inv (zba X xs caps scope cl C s H fp) [] (capσ σ xs.length caps) H s':=by
 have cellK:∀y c,cl.lookup y=some c->∃v,s'.heap.IsCell c v:=fun y c e=>by
  rcases hcl.sort y c e with z | z
  ·obtain ⟨v,o,q,d⟩:=I.cell y c z;exact ⟨v,o,hk _ _ q,d⟩
  ·exact ⟨none,z.1⟩
 refine ⟨⟨I.ok.mod,S.kind,I.ok.glob,I.ok.blt,hC,hcl.inj,fun y hy=>hcl.has y (zg5 hy),fun y c z e=>hcl.own y c (yaq z) e,I.ok.hd,I.ok.frames,.inl rfl,fun b hb=>⟨yax (yap (hlt b hb) hC),fun y c e=>(hcl.sort y c e).elim (fun z=>(hf b hb).2.2.2.2.1 y c z) fun z=>ya6 (yap (hlt b hb) z.2)⟩,
  I.bs,yak I.ok.bsz I.sz,fun b o e hb=>?_,fun b hb hm=>?_,I.stack,I.stkFree⟩,ho,by rw [hg];exact I.bare,Un.kept hk,⟨_,hn,fun i y v h1 h2 h3=>?_⟩,fun y c e=>cellK y c e,I.hok.fresh hC,fun y c e=>(hcl.sort y c e).elim (I.freeC y c) fun z=>I.hok.fresh z.2,fun p hp=>absurd (show p∈([]:Z3) from hp) (by simp),I.hok.kept hk,?_⟩
 ·rcases (hf b hb).2.2.2.1 with z | z
  ·exact I.ok.noex b o e z
  ·exact absurd (yap (yar e) (yak I.ok.bsz z)) (ya5 _)
 ·rcases yau.mp (I.stkSub b hm) with z | z
  ·exact (hf b hb).2.1 z
  ·exact (hf b hb).2.2.1 z
 ·have hi:¬ i<xs.length:=fun hi=>by
   have h2':(capσ σ xs.length caps)[i]?=some (some v):=h2;rw [yay (by rw [yaG];exact hi),ya9] at h2'
   split at h2'<;>cases h2'
  ·have h1':(caps.map (·.1))[i-xs.length]?=some y:=by
    have h1':(xs++caps.map (·.1))[i]?=some y:=h1;rwa [yas (by omega)] at h1'
   rw [yal] at h1'
   have h2':(caps.map fun p=>(σ[p.2]?).join)[i-xs.length]?=some (some v):=by
    have h2':(capσ σ xs.length caps)[i]?=some (some v):=h2;rw [yas (by rw [yaG];omega),yaG] at h2';exact h2'
   rw [yal] at h2'
   cases hp:caps[i-xs.length]? with
   | none=>rw [hp] at h1';cases h1'
   | some p =>
    rw [hp] at h1' h2';have ey:p.1=y:=Option.some.inj h1';have ev:(σ[p.2]?).join=some v:=Option.some.inj h2';subst ey;have hmem:p∈caps:=ybb hp;obtain ⟨c1,c2,c3⟩:=S.cap p hmem
    have eσ:σ[p.2]?=some (some v):=by
     cases q:σ[p.2]? with
     | none=>rw [q] at ev;cases ev
     | some w=>rw [q] at ev;have:w=some v:=ev;rw [this]
    have hfr:=S.free _ c2 rfl;have hv:Vis X.env.scope p.1:=hfr.elim (fun z=>.inr (.inl z)) (fun z=>.inr (.inr z));obtain ⟨m,_,hl⟩:=I.loc;obtain ⟨u,r,l⟩:=hl p.2 p.1 v c1 eσ hv;refine ⟨u,r,.inr ⟨zeq (scope:=scope) (env:=X.env) c2 (hu p hmem),?_⟩⟩;obtain ⟨c,ec,ec2⟩:=hcl.free p.1 c2;refine ⟨c,ec,?_⟩
    rcases l with ⟨z,_⟩ | ⟨_,c',ec',hcell⟩
    ·exact absurd z c3
    ·have:c'=c:=by rw [ec2] at ec';exact (Option.some.inj ec').symm
     subst this;obtain ⟨o,q,d⟩:=hcell;exact ⟨o,hk _ _ q,d⟩
 ·simp [zba,capσ]
theorem zhB{use:Option (Value->Sem Unit)}{Qf:Z5}{R:VK}{pins:Z3}{s:Shared}{σ:St}{H:Hp}(hc:X.calm=true)(S:CompScopeG X.env.scope scope X.N xs caps)(hi:PI X tg iter wi)(hg:∀cl C s H fp,PG (zba X xs caps scope cl C s H fp) tg g)
  (ht:∀cl C s H fp,PIf (zba X xs caps scope cl C s H fp) ifs tt) (he:∀cl C s H fp,PE (zba X xs caps scope cl C s H fp) elt te)
  (hs:∀v,foldedSetIterable iter X.env v=pure v) (I:Inv X pins σ H s) (h:ziC wi g tt te xs.length caps σ H R)
  (fin:∀(D C:Addr) (s4:Shared) (m4:Z6) (H6:Hp) (r:Flow),s4.heap.Ns C m4->(∀{σ':St} {H7:Hp} {s5:Shared} {h':Heap},Inv X pins σ' H7 s5->Heap.SameBut C s5.heap h'->H7 C=none->Inv X pins σ' H7 { s5 with heap:=h' })->H6 C=none->C≠X.env.locals->(∀y c,X.env.cells.lookup y=some c->C≠c)->Inv X pins σ H6 s4->R (.ref D) H6->compPost (model X.prog X.w) X.A X.xe use Qf (.ref D) C (.ok r) s4) :
  wpAny (model X.prog X.w) X.A (comprehension (.ListComp elt [⟨tg,iter,ifs,0⟩] scope pos) scope X.env (firstIterPos [⟨tg,iter,ifs,0⟩] pos) (newList []) false (eval iter X.env) use) Qf X.xe s:=by
 obtain ⟨cl,hclos,hcl,hhas⟩:=zj3 (scope:=scope) (env:=X.env) fun y hy hf=>I.ok.has y.1 (S.free y hy hf)
 refine wpAny_comprehension_free (use:=use) rfl hs hclos S.kind S.names (thn (hi pins s σ H _ I h) fun v s1 h1=>thn h1 fun itv s2 h2=>?_);obtain ⟨it,fp,tn,J,H2,rfl,I2,T,st2,f2,W,⟨m0,w0⟩,turn⟩:=h2;refine yaX (zcr (fun h₁ hns₁ hsb₁ hok₁=>?_));dsimp only at hns₁ hsb₁ hok₁ ⊢;generalize hHp:s2.heap.push { cls:=.type "list",dict:=none,data:=.seq ([]:List Value).toArray }=Hq at hns₁ hsb₁ hok₁ ⊢
 have hCe:Hq.objs.size=s2.heap.objs.size+1:=by rw [<-hHp,ya0]
 have hDC:s2.heap.objs.size≠Hq.objs.size:=by rw [hCe];exact yax (ybF _)
 have hC:s2.heap.objs.size<=Hq.objs.size:=by rw [hCe];exact ybR _
 have old:∀b o,s2.heap.get? b=some o->h₁.get? b=some o:=fun b o e=>hsb₁ b o (hHp ▸ yag _ e)
 have hacc:h₁.get? s2.heap.objs.size=some (lob [] 0):=hsb₁ _ _ (hHp ▸ yao _ rfl)
 have cellX:∀y c,X.env.cells.lookup y=some c->c<s2.heap.objs.size:=fun y c e=>by obtain ⟨v,q⟩:=I2.cell y c e;exact q.lt
 have oc:=zk3 (X:=X) (lo:=s2.heap.objs.size+1) S.nd (by rw [hCe];exact ybR _) I.ok.inj hcl (fun y c e=>yb0 (cellX y c e)) hhas hok₁;generalize hcl2:cellsFrom (Hq.objs.size+1) scope.names []++cl=cl2 at oc ⊢;have oc':OwnC X scope s2.heap.objs.size h₁ cl2:=⟨fun y c e=>(oc.sort y c e).imp id fun z=>⟨z.1,yc3 z.2⟩,oc.inj,oc.has,fun y c a e=>yc3 (oc.own y c a e),oc.free⟩
 have hlt:∀b∈fp,b<s2.heap.objs.size:=fun b hb=>by obtain ⟨o,e,_⟩:=T.obj 0 _ st2 b hb;exact yar e
 generalize hY:zba X xs caps scope cl2 Hq.objs.size s2 H2 fp=Y;have PEY:PE Y elt te:=hY ▸ he cl2 _ s2 H2 fp;have PIY:PIf Y ifs tt:=hY ▸ ht cl2 _ s2 H2 fp;have PGY:PG Y tg g:=hY ▸ hg cl2 _ s2 H2 fp
 have I3:Inv Y [] (capσ σ xs.length caps) H2 { s2 with heap:=h₁ }:=by
  rw [<-hY];exact zlV S S.uniq I2 oc' f2 hlt hC rfl rfl old hns₁
 have eYenv:Y.env=compEnvC scope cl2 Hq.objs.size X.env:=by rw [<-hY];rfl
 have eYloc:Y.env.locals=Hq.objs.size:=by rw [eYenv];rfl
 have eYfs:Y.fs=frs X.stack:=by rw [<-hY];rfl
 have eYprog:Y.prog=X.prog:=by rw [<-hY];rfl
 have eYw:Y.w=X.w:=by rw [<-hY];rfl
 have eYK:Y.K=X.K:=by rw [<-hY];rfl
 have eYA:Y.A=X.A:=by rw [<-hY];rfl
 have eYc:Y.calm=true:=by rw [<-hY];exact hc
 have eYex:Y.ex=fp:=by rw [<-hY];rfl
 have eYs:Y.s₀=s2:=by rw [<-hY];rfl
 have eYH:Y.H₀=H2:=by rw [<-hY];rfl
 have eYpn:Y.pn=[]:=by rw [<-hY];rfl
 have eYcell:∀y c,Y.env.cells.lookup y=some c->X.env.cells.lookup y=some c\/s2.heap.objs.size+1<=c:=fun y c e=>(oc.sort y c (by rwa [eYenv] at e)).imp id (·.2)
 have eYxe:∀e s',¬ Y.xe e s':=fun e s' z=>by rwa [<-hY] at z
 have stkX:∀b∈frs X.stack,b<s2.heap.objs.size:=fun b hb=>by
  rcases yau.mp (I2.stkSub b hb) with z | z
  ·rw [z];exact I2.lt
  ·refine Nat.not_le.mp fun hle=>I2.nofs hle z
 have pinX:∀p∈X.pn++pins,p.1<s2.heap.objs.size:=fun p hp=>yar (I2.pin p hp).1
 have fpY:∀{H':Hp} {its:List Value} {k:Nat},(∀b∈fp,H' b=none)->∀b∈fp,zmi Y [(s2.heap.objs.size,lob its k)] H' b:=fun {H' its k} hn b hb=>by
  refine ⟨hn b hb,by rw [eYloc];exact yax (yap (hlt b hb) hC),?_,.inl (by rw [eYex];exact hb),fun y c e=>(eYcell y c e).elim (fun z=>(f2 b hb).2.2.2.2.1 y c z) fun z=>ya6 (yap (hlt b hb) (yc3 z)),fun p hp=>?_⟩
  ·rw [eYfs];intro hm
   rcases yau.mp (I2.stkSub b hm) with z | z
   ·exact (f2 b hb).2.1 z
   ·exact (f2 b hb).2.2.1 z
  ·rw [eYpn] at hp
   have e:p=(s2.heap.objs.size,lob its k):=by simpa using hp
   rw [e];exact ya6 (hlt b hb)
 have pinD:∀{H':Hp} {σ':St} {s':Shared} {its:List Value} {k:Nat},Inv Y [] σ' H' s'->s'.heap.get? s2.heap.objs.size=some (lob its k)->H' s2.heap.objs.size=none->Inv Y [(s2.heap.objs.size,lob its k)] σ' H' s':=fun {H' σ' s' its k} I' e n =>
  I'.pins_of fun p hp=>by
   have ep:p=(s2.heap.objs.size,lob its k):=by simpa using hp
   subst ep;refine ⟨e,n,by rw [eYloc];exact hDC,?_,fun v z=>?_⟩
   ·rw [eYfs];exact fun hm=>ya5 _ (stkX _ hm)
   ·have z':Data.seq its.toArray k=Data.cell v:=z;cases z'
 have loop:codeAny (model X.prog X.w) X.A (.compLoop (.ListComp elt [⟨tg,iter,ifs,0⟩] scope pos) 0 (.ref it) (.ref s2.heap.objs.size) (compEnvC scope cl2 Hq.objs.size X.env))
   (compPost (model X.prog X.w) X.A X.xe use Qf (.ref s2.heap.objs.size) Hq.objs.size) { s2 with heap:=h₁ }:=by
  refine znd (fun n s'=>∃i σx H' ys its k,Inv Y [(s2.heap.objs.size,lob its k)] σx H' s'/\tn i s'.heap/\(∀b∈fp,H' b=none)/\Vals ys its/\W i n ys σx H') ?_ m0
   ⟨0,capσ σ xs.length caps,H2,[],[],0,pinD I3 hacc (I2.hok.fresh (yaj _)),T.keep _ _ _ st2 fun b hb o e=>old b o e,fun b hb=>(f2 b hb).1,.nil,w0⟩
  rintro n s3 ⟨i,σx,H3,ys,its,k,J3,st3,fr3,rv,w3⟩;obtain ⟨hz,hcase⟩:=turn i n ys σx H3 w3
  rcases hcase with ⟨stop,q⟩ | ⟨go,step⟩
  ·have hd:=T.done Y eYprog eYw eYK eYc i _ s3 _ H3 (notedBy (model X.prog X.w) X.A (compEnvC scope cl2 Hq.objs.size X.env) fun e s'=>compPost (model X.prog X.w) X.A X.xe use Qf (.ref s2.heap.objs.size) Hq.objs.size (.error e) s') J3 (fpY fr3) st3 stop;rw [eYA] at hd;refine thn hd fun r s4 ⟨hr,J4⟩=>?_
   subst hr;obtain ⟨m4,hn4,_⟩:=J4.loc
   have hn4':s4.heap.Ns Hq.objs.size m4:=by rw [<-eYloc];exact hn4
   have hnC:H3 Hq.objs.size=none:=by rw [<-eYloc];exact J4.free
   have hk5:HOk X.prog X.w H3 s4.heap:=by rw [<-eYprog,<-eYw];exact J4.hok
   have u5:Un (frs X.stack) fp H2 H3 s2.heap s4.heap:=by
    have ub:=J4.base;rwa [eYfs,eYex,eYH,eYs] at ub
   have J5:Inv X pins σ H3 s4:=I2.call' (s':=s4) (ch:=fp) (by have:=J4.os;rwa [eYs] at this) u5 hk5 J4.bare fun b hb=>⟨(f2 b hb).2.2.2.1,(f2 b hb).2.1,(f2 b hb).2.2.2.2.1,(f2 b hb).2.2.2.2.2⟩
   have hp4:=J4.pin (s2.heap.objs.size,lob its k) (yaJ _ yaA);have hD5:s4.heap.get? s2.heap.objs.size=some (lob its k):=hp4.1;have J6:Inv X pins σ (upd H3 s2.heap.objs.size (.lst ys)) s4:=J5.track hp4.2.1 I2.sz (ya6 I2.lt) (fun y c e=>yax (cellX y c e)) (fun p hp=>yax (pinX p hp)) (show zbL X.prog X.w _ s4.heap _ (.lst ys) from ⟨hz,its,k,rv,hD5⟩);have hCloc:Hq.objs.size≠X.env.locals:=ya6 (yap I2.lt hC);exact fin _ Hq.objs.size s4 m4 _ _ hn4' (fun {σ'} {H7} {s5} {h'} J sb' hn=>J.turned (t':=s5.toks) (it:=Hq.objs.size) (fun b o hb e=>(sb'.2 b hb).trans e) hn hCloc (.inr (yak I2.sz hC)) (fun y c e=>yax (yap (cellX y c e) hC)) (fun p hp=>yax (yap (pinX p hp) hC))) (by rw [zao (Ne.symm hDC)];exact hnC) hCloc (fun y c e=>ya6 (yap (cellX y c e) hC)) J6 (q _ hp4.2.1)
  ·have hd:=T.item Y eYprog eYw eYK eYc i _ s3 _ H3 (notedBy (model X.prog X.w) X.A (compEnvC scope cl2 Hq.objs.size X.env) fun e s'=>compPost (model X.prog X.w) X.A X.xe use Qf (.ref s2.heap.objs.size) Hq.objs.size (.error e) s') J3 (fpY fr3) st3 go;rw [eYA] at hd;refine thn hd fun r s4 ⟨u,hr,h4⟩=>?_
   subst hr;refine thn h4 fun _ s5 ⟨v4,H4,J4,r4,y4,st5,fr4⟩=>?_
   have J4':=J4.pinned (fp:=fp) (fpY fr4) (T.obj _ _ st5);have ha:=PGY _ s5 σx H4 v4 u _ J4' r4 (step v4 H4 y4);rw [eYprog,eYw,eYA,eYenv] at ha;refine ybE ha (fun _ s5' ⟨σ5,H5,J5',q5⟩=>?_) fun e s' z=>(eYxe _ _ z).elim
   have ht5:=PIY _ s5' σ5 H5 _ J5' q5;rw [eYprog,eYw,eYA,eYenv] at ht5;refine ybE ht5 (fun ok s6 ⟨H6,J6,q6⟩=>?_) fun e s' z=>(eYxe _ _ z).elim
   have back:∀{H7:Hp} {s7:Shared},Inv Y ([(s2.heap.objs.size,lob its k)]++zha fp s5.heap) σ5 H7 s7->tn (i+1) s7.heap/\∀b∈fp,H7 b=none:=fun {H7 s7} J7 =>
    ⟨T.keep _ _ _ st5 fun b hb o e=>(J7.pin (b,o) (yaJ _ (yaJ _ (zdp hb e)))).1,fun b hb=>by
     obtain ⟨o,e,d⟩:=T.obj _ _ st5 b hb
     exact (J7.pin (b,o) (yaJ _ (yaJ _ (zdp hb e)))).2.1⟩
   cases ok with
   | false =>
    rw [if_neg yaP] at q6;rw [if_neg yaP];obtain ⟨m',hm',w6⟩:=q6;exact ⟨m',hm',i+1,σ5,H6,ys,its,k,J6.unpinned,(back J6).1,(back J6).2,rv,w6⟩
   | true =>
    rw [if_pos rfl] at q6;rw [if_pos rfl];have he6:=PEY _ s6 _ H6 _ J6 q6;rw [eYprog,eYw,eYA,eYenv] at he6;refine ybE he6 (fun u7 s7 ⟨v7,H7,J7,r7,m',hm',w7⟩=>?_) fun e s' z=>(eYxe _ _ z).elim
    obtain ⟨st7,fr7⟩:=back J7;have hp7:=(J7.unpinned).pin (s2.heap.objs.size,lob its k) (yaJ _ yaA);have hl:=rv.length;refine append_at (hsz:=by show its.toArray.size<=sizeLine;rw [yah];omega) hp7.1 fun h8 sb8 hD8=>?_
    have J7':Inv Y [] σ5 H7 s7:=J7.unpinned.pins_of fun p hp=>absurd hp (by simp)
    have J8:Inv Y [] σ5 H7 { s7 with heap:=h8 }:=J7'.turned (t':=s7.toks) (it:=s2.heap.objs.size) (fun b o hb e=>(sb8.2 b hb).trans e) hp7.2.1 (by rw [eYloc];exact hDC) (.inr (by rw [eYs];exact yaj _)) (fun y c e=>(eYcell y c e).elim (fun z=>yax (cellX y c z)) fun z=>ya6 z) (fun p hp=>by rw [eYpn] at hp;simp at hp)
    have hD8':h8.get? s2.heap.objs.size=some (lob (its++[u7]) (k+1)):=by rw [hD8];simp [lob]
    exact ⟨m',hm',i+1,σ5,H7,ys++[v7],its++[u7],k+1,pinD J8 hD8' hp7.2.1,T.keep _ _ _ st7 fun b hb o e=>(sb8.2 b (yax (hlt b hb))).trans e,fr7,rv.append (.cons r7 .nil),w7⟩
 exact codeAny_compStart_list loop (T.self X.A 0 _ _ _ (T.keep _ _ _ st2 fun b hb o e=>old b o e) loop)
def zmW(hc:X.calm=true)(S:CompScopeG X.env.scope scope X.N xs caps)(hi:PI X tg iter wi)(hg:∀cl C s H fp,PG (zba X xs caps scope cl C s H fp) tg g)
  (ht:∀cl C s H fp,PIf (zba X xs caps scope cl C s H fp) ifs tt) (he:∀cl C s H fp,PE (zba X xs caps scope cl C s H fp) elt te)
  (hs:∀v,foldedSetIterable iter X.env v=pure v:=by intro _;rfl):PE X (.ListComp elt [⟨tg,iter,ifs,0⟩] scope pos) (ziC wi g tt te xs.length caps):=by
 intro pins s σ H Q I h;rw [eval_ListComp];exact zhB (use:=none) hc S hi hg ht he hs I h fun D C s4 m4 H6 r hn tr hC _ _ J6 q=>⟨m4,hn,fun h5 sb=>⟨.ref D,H6,tr J6 sb hC,rfl,q⟩⟩
def zmL(hc:X.calm=true)(S:CompScopeG X.env.scope scope X.N xs caps)(hN0:X.N.Nodup)(hi0:X.N[k0]?=some y0)(hx0:Loc X.env.scope y0)(hi:PI X tg iter wi)(hg:∀cl C s H fp,PG (zba X xs caps scope cl C s H fp) tg g)
  (ht:∀cl C s H fp,PIf (zba X xs caps scope cl C s H fp) ifs tt) (he:∀cl C s H fp,PE (zba X xs caps scope cl C s H fp) elt te)
  (hsw:swapsWith (.ListComp elt [⟨tg,iter,ifs,0⟩] scope pos) (some (.Name y0 py)) spos.line X.env=pure true)
  (hf0:X.fn y0=true\/X.env.scope.names.lookup y0=some .local)
  (hs:∀v,foldedSetIterable iter X.env v=pure v):PS X (.Assign [.Name y0 py] (.ListComp elt [⟨tg,iter,ifs,0⟩] scope pos) spos) (zqU (ziC wi g tt te xs.length caps) (zlI k0)):=by
 intro pins s σ H DD I h;rw [exec_Assign_Name_used _ _ _ _ hsw];refine yaa (yc6 (yaa ?_));show wpAny _ X.A (do let _ ← comprehension (.ListComp elt [⟨tg,iter,ifs,0⟩] scope pos) scope X.env _ (newList []) false (eval iter X.env) (some (assign (.Name y0 py) X.env))) _ _ s;refine yaa (ybE (zhB (use:=some (assign (.Name y0 py) X.env)) (Qf:=fun _ s'=>SP X pins DD .next s') hc S hi hg ht he hs I h fun D C s4 m4 H6 r hn tr hC hl hce J6 q=>?_) (fun _ s' hq=>yae (yae hq)) fun _ _ e=>e);show wpAny _ X.A (assign (.Name y0 py) X.env (.ref D)) _ X.xe s4;refine wpAny_assign_Name (zgP (i:=k0) J6 hN0 hi0 hx0 (v:=.ref D) rfl (fun s5 J7 ⟨a,sb,ha⟩=>?_) hf0);have haC:C≠a:=ha.elim (fun z=>by rw [z];exact hl) fun z=>hce _ _ z
 exact ⟨m4,hn.sameBut sb haC,fun h' sb'=>⟨_,_,tr J7 sb' hC,q⟩⟩
end
end L2
namespace ST
open PySem PySem.SetTable
noncomputable def stp(mask:Nat)(p:Probe):Probe :=
 if p.more > 0 then { p with j:=p.j+1,more:=p.more-1 } else
 { p with j:=(leap mask p.i p.perturb).1,more:=runEnd mask (leap mask p.i p.perturb).1-(leap mask p.i p.perturb).1,i:=(leap mask p.i p.perturb).1,perturb:=(leap mask p.i p.perturb).2 }
def itr(mask:Nat):Nat->Probe->Probe
 | 0,p=>p
 | n+1,p=>itr mask n (stp mask p)
noncomputable def zvG(mask i pert:Nat):Probe:={ j:=i,more:=runEnd mask i-i,i:=i,perturb:=pert,dummy:=none }
def st(mask:Nat)(h:Int)(n:Nat):Probe:=itr mask n (zvG mask (bits h % (mask+1)) (bits h))
def pos(mask:Nat)(h:Int)(n:Nat):Nat:=(st mask h n).j
noncomputable def Cut(ps:List Nat)(j c:Nat):Prop:=c<=ps.length/\(∀k x,k<c->ps[k]?=some x->x<j)/\∀k x,c<=k->ps[k]?=some x->j<=x
theorem zjl:∀(ps:List Nat) (j:Nat),ps.Pairwise (· < ·)->∃c,Cut ps j c
 | [],j,_=>⟨0,yaj _,fun k x h _=>by omega,fun k x _ e=>by simp at e⟩
 | a::ps,j,h=>by
  obtain ⟨ha,hp⟩:=List.pairwise_cons.mp h
  by_cases hj:a<j
  ·obtain ⟨c,h1,h2,h3⟩:=zjl ps j hp;refine ⟨c+1,Nat.succ_le_succ h1,fun k x hk e=>?_,fun k x hk e=>?_⟩
   ·cases k with
    | zero=>simp at e;omega
    | succ k=>exact h2 k x (by omega) (by simpa using e)
   ·cases k with
    | zero=>omega
    | succ k=>exact h3 k x (by omega) (by simpa using e)
  ·refine ⟨0,yba _,fun k x hk _=>by omega,fun k x _ e=>?_⟩
   cases k with
   | zero=>simp at e;omega
   | succ k =>
    have:=ha x (ybb (by simpa using e));omega
theorem zlH(hc:Cut xs.toList j c):∀(fuel lo hi:Nat),lo<=c->c<=hi->hi<=xs.size->hi-lo<=fuel->below.go xs j fuel lo hi=c
 | 0,lo,hi,h1,h2,h3,h4=>by unfold below.go;omega
 | fuel+1,lo,hi,h1,h2,h3,h4=>by
  unfold below.go
  by_cases hlt:lo<hi
  ·rw [if_pos hlt]
   have hm:(lo+hi) / 2<xs.size:=by omega
   have e:xs.toList[(lo+hi) / 2]?=some xs[(lo+hi) / 2]:=by rw [ybi];exact ybe hm
   have eD:xs.getD ((lo+hi) / 2) j=xs[(lo+hi) / 2]:=by simp [Array.getD,hm]
   show (if xs.getD ((lo+hi) / 2) j<j then below.go xs j fuel ((lo+hi) / 2+1) hi else below.go xs j fuel lo ((lo+hi) / 2))=c;rw [eD]
   by_cases hx:xs[(lo+hi) / 2]<j
   ·rw [if_pos hx];refine zlH hc fuel _ _ ?_ h2 h3 (by omega);refine Classical.byContradiction fun z=>?_
    have:=hc.2.2 ((lo+hi) / 2) _ (by omega) e;omega
   ·rw [if_neg hx];refine zlH hc fuel _ _ h1 ?_ (by omega) (by omega);refine Classical.byContradiction fun z=>?_
    have:=hc.2.1 ((lo+hi) / 2) _ (by omega) e;omega
  ·rw [if_neg hlt];omega
theorem zfq(hc:Cut xs.toList j c):below xs j=c:=by
 unfold below;exact zlH hc _ _ _ (yba _) (by have:=hc.1;simpa using this) (yaj _) (by omega)
def zkz{t:SetTable}(hs:t.place.toList.Pairwise (· < ·))(hd:t.dummies=#[])(h:j ∉ t.place.toList):t.slot j=.empty:=by
 obtain ⟨c,hc⟩:=zjl t.place.toList j hs;unfold slot;rw [zfq hc]
 have e:(t.place[c]? == some j)=false:=by
  rw [<-ybi]
  cases q:t.place.toList[c]? with
  | none=>rfl
  | some x =>
   have:x≠j:=fun z=>h (z ▸ ybb q)
   simpa using this
 show (if (t.place[c]? == some j)=true then Slot.live c else if has t.dummies j=true then .dummy else .empty)=.empty;rw [e,if_neg (by simp),hd]
 have:has #[] j=false:=by unfold has below;rfl
 rw [this,if_neg (by simp)]
def zp0{α:Type}(xs:List α)(c:Nat)(x y:α):y∈xs.take c++x::xs.drop c↔y=x\/y∈xs:=by
 have e:y∈xs↔y∈xs.take c++xs.drop c:=by rw [ycx]
 rw [e];simp only [ya3,yau];constructor
 ·rintro (h | h | h)
  ·exact .inr (.inl h)
  ·exact .inl h
  ·exact .inr (.inr h)
 ·rintro (h | h | h)
  ·exact .inr (.inl h)
  ·exact .inl h
  ·exact .inr (.inr h)
def zdr{α:Type}(xs:Array α)(p:Nat)(x:α):(insertAt xs p x).toList=xs.toList.take p++x::xs.toList.drop p:=by
 simp [insertAt,List.extract_eq_take_drop,List.take_of_length_le]
def zr0{t:SetTable}(hd:t.dummies=#[])(j:Nat):t.put j=({ t with place:=insertAt t.place (below t.place j) j },below t.place j):=by
 unfold put
 have:has t.dummies j=false:=by rw [hd];unfold has below;rfl
 rw [this];simp
theorem zpa(hs:ps.Pairwise (· < ·))(hc:Cut ps j c)(hj:j ∉ ps):(ps.take c++j::ps.drop c).Pairwise (· < ·):=by
 rw [List.pairwise_append,List.pairwise_cons]
 have e:(ps.take c++ps.drop c).Pairwise (· < ·):=by rw [ycx];exact hs
 rw [List.pairwise_append] at e
 have lo:∀x∈ps.take c,x<j:=fun x hx=>by
  obtain ⟨k,hk⟩:=ycE hx;rw [ycf] at hk;split at hk
  ·exact hc.2.1 k x (by assumption) hk
  ·cases hk
 have hi:∀x∈ps.drop c,j<x:=fun x hx=>by
  obtain ⟨k,hk⟩:=ycE hx;rw [ybj] at hk;have h1:=hc.2.2 (c+k) x (by omega) hk;have h2:x≠j:=fun z=>hj (z ▸ ybb hk)
  omega
 refine ⟨e.1,⟨hi,e.2.1⟩,fun x hx y hy=>?_⟩
 rcases yau.mp hy with rfl | hy
 ·exact lo x hx
 ·have:=lo x hx;have:=hi y hy;omega
open PySem PySem.Spec PyProof.Rows
section
variable{prog:Program}{w:World}{A:Around}{E:Z5}{s:Shared}
def zwO{h:Heap}{o:Obj}(ho:h.get? a=some o)(hx:o.ExactSet)(hd:o.data=.set es ep t) :
  ∃o',(h.update a (Obj.putSet es' t')).get? a=some o'/\o'.ExactSet/\o'.data=.set es' (ep+1) t':=by
 refine ⟨{ o with data:=.set es' (ep+1) t' },?_,hx,rfl⟩;rw [ybp _ ho (by rw [putSet_of es' t' hd];rfl),putSet_of es' t' hd]
end
end ST
namespace PySem
end PySem
namespace L2
open PySem PySem.Spec PyProof.Rows
section
variable{X:Cx}{a b c:Expr}{ta tb tc:TE}{pos:Pos}
def zin:zdw X (.builtin "isinstance") (fun xs H Q=>∃x t c k,xs=[x,.ty c]/\TyOf X.K H x t/\PySem.W.kitOne X.K t (.type c)=some k/\Q (.bl k) H):=by
 intro pins s σ H xs us Q I r h;obtain ⟨x,t,c,k,rfl,ty,e,q⟩:=h
 cases r with
 | cons r1 rr =>
  cases rr with
  | cons r2 r3 =>
   cases r3;cases (show _=Value.type c from r2);exact zlz I r1 ty e fun tk=>⟨.bl k,H,I.tok tk,rfl,q⟩
def zf8(bs:List Bool):((List.range bs.length).all fun i=>(bs[i]?).getD true)=bs.all id:=by
 rw [ycg,ybl,ybl];constructor
 ·intro h b hb;obtain ⟨i,hi,e⟩:=ycF.mp hb;have:=h i (ybc.mpr hi);rwa [yab hi,e] at this
 ·intro h i hi;have hi':=ybc.mp hi;rw [yab hi'];exact h _ (yaQ hi')
def zio(hc:X.calm=true):zdw X (.builtin "all") (fun xs H Q=>∃(p:Addr) (bs:List Bool),xs=[.ref p]/\SqL X.K H p (bs.map V.bl)/\Q (.bl (bs.all id)) H):=by
 intro pins s σ H xs us Q I r h;obtain ⟨p,bs,rfl,hq,q⟩:=h;obtain ⟨u,rfl,rx⟩:=zeP r;cases rx;obtain ⟨its,rv,pl,hz⟩:=I.list hq;have hl:=pl.isList
 have hlt:p<s.heap.objs.size:=by obtain ⟨_,e,_⟩:=hl;exact yar e
 have hn:its.length=bs.length:=by have:=rv.length;rw [yad] at this;exact this.symm
 refine call_all_walk (ycp hl ?_);refine ⟨s.heap.objs.size,[s.heap.objs.size,p],[s.heap.objs.size],its.toArray.size,_,_,fun i=>(bs[i]?).getD true,rfl,Walks.list (A:=X.A.in1) (I.ok.hd hc) _ p (yax hlt) its.toArray,⟨⟨_,yao _ rfl,rfl,rfl⟩,hl.push _⟩,fun i v s' Q' E' hP hQ=>?_,fun h' tk hk=>?_⟩
 ·have hv:its[i]?=some v:=by simpa using hP
  have hi:i<bs.length:=by rw [<-hn];exact (yai.mp hv).1
  obtain ⟨u,hu,ru⟩:=rv.get (i:=i) (x:=.bl bs[i]) (by rw [yal,yab hi];rfl);rw [hv] at hu;cases hu;cases (show v=Value.bool bs[i] from ru);refine ybg ?_;have hQ':Q' ((bs[i]?).getD true) s':=hQ;rwa [yab hi] at hQ'
 ·rw [yah,hn,zf8];refine ⟨.bl _,H,I.kept (t':=tk) fun b o e=>?_,rfl,q⟩;exact hk b o (fun hm=>by rw [yaF.mp hm] at e;exact ya5 _ (yar e)) (yag _ e)
def zia:OpR X (compareOp .IsNot) (fun x y H Q=>∃i j,x=.bl i/\y=.bl j/\Q (.bl (!decide (i=j))) H):=by
 intro pins s σ H x y v u Q I rx ry h;obtain ⟨i,j,rfl,rfl,q⟩:=h;cases rx;cases ry;show wpAny _ _ (isSame (Value.bool i) (Value.bool j) >>= fun r=>pure (Value.bool (!r))) _ _ s;refine yaa (wpAny_isSame_plain (by rfl) (yae ?_));refine ⟨.bl (!decide (i=j)),H,I,?_,q⟩;show _=Value.bool _;congr 1
 cases i<;>cases j<;>rfl
noncomputable def zjr(a:Addr)(c:Nat)(h:Heap):Prop:=∃o es ep t,h.get? a=some o/\o.ExactSet/\o.data=.set es ep t/\t.fits es.size=true/\es.size=c
theorem zgy:zdw X (.builtin "len") (fun xs H Q=>∃a c,xs=[.ref a]/\H a=some (.ext (zjr a c))/\c<=1000/\Q (.int c) H):=by
 intro pins s σ H xs us Q I r h;obtain ⟨a,c,rfl,ha,hc,q⟩:=h;obtain ⟨u,rfl,rx⟩:=zeP r;cases rx;obtain ⟨⟨o,es,ep,t,e1,e2,e3,e4,e5⟩,_⟩:=I.hok a _ ha;refine call_len_set e1 e2 e3 e4 ?_ ?_
 ·have:(es.size:Int)<=1000:=by rw [e5];omega
  exact Int.lt_of_le_of_lt this (by decide)
 ·exact ⟨.int c,H,I.tok _,⟨_,by rw [e5]⟩,q⟩
def zm3:OpR X (binaryOp .Add) (fun x y H Q=>∃(a b:Addr) (ys:List V),x=.ref a/\y=.ref b/\SqT X.K H a []/\SqT X.K H b ys/\Q (.ref b) H):=by
 intro pins s σ H x y v u Q I rx ry h;obtain ⟨a,b,ys,rfl,rfl,ha,hb,q⟩:=h;cases rx;cases ry;obtain ⟨its,r1,p1,_⟩:=I.tuple ha;obtain ⟨its2,r2,p2,_⟩:=I.tuple hb;cases r1;obtain ⟨⟨cls,dd,data,sl⟩,ho,hc,n,hd⟩:=id p1;obtain ⟨⟨cls2,dd2,data2,sl2⟩,ho2,hc2,n2,hd2⟩:=id p2;simp only at hc hd hc2 hd2;subst hc hd hc2 hd2
 exact concat_meets ⟨_,ho,rfl⟩ ⟨_,ho2,rfl⟩ noFill_tuple_add seq_tuple_add ycm yce (ycb _ _)
  (tuple_addW0 a b ([]:List Value).toArray its2.toArray n n2 dd dd2 sl sl2 (by rfl)) ⟨ho,ho2,⟨.ref b,H,I,rfl,q⟩⟩
end
end L2
namespace PySem
open PySem.Spec PyProof.Rows
theorem zdB:fillsNumberSlot (.type "tuple") "mul" = pure false :=
 fillsNumberSlot_seq (id:="tuple.__mul__") (r:=some (.builtin "tuple.__rmul__")) ycz.lookup (by decide +kernel) F.slot_tuple_rmul.lookup (by decide +kernel)
theorem zfF:seqRepeat? (.type "tuple")=pure (some (.builtin "tuple.__mul__")):=by
 have e1:=seqSlot_of (T:="tuple") (name:="__mul__") (id:="tuple.__mul__") ycz.lookup (by decide +kernel);have e2:=seqSlot_of (T:="tuple") (name:="__rmul__") (id:="tuple.__rmul__") F.slot_tuple_rmul.lookup (by decide +kernel);unfold seqRepeat?;rw [e1,e2];rfl
def zew(a:Int)(t:Tok)(l:Addr)(o:Obj)(hc:o.cls=.type "tuple")(hdd:o.data=.seq its n) :
  Meets (Builtin.«int.__rmul__» ⟨[.int a t,.ref l],[]⟩) (fun _ R s=>s.heap.get? l=some o/\R (.ok (.ret Value.notImplemented)) s) :=
 .of_wp fun prog w A R s h=>by
  obtain ⟨c,d,dt,sl⟩:=o;simp only at hc hdd;subst hc hdd;obtain ⟨hp,g,dr,tk,os⟩:=s;obtain ⟨hl,h⟩:=h
  wp_walk
  exact ⟨_,rfl,h⟩
section
variable{prog:Program}{w:World}{A:Around}{E:Z5}{s:Shared}
theorem zgK{a:Addr}{o:Obj}{its:Array Value}{n:Nat}{k:Int}{t:Tok}{P:Fin->Shared->Prop}(ho:s.heap.get? a=some o)(hc:o.cls=.type "tuple")(hd:o.data=.seq its n)(hne:its.isEmpty=false)(h2:2<=k)(hz:(its.size:Int)*k<=1000000)(hk:k<=1000)
  (h:P (.done (.ret (.ref s.heap.objs.size))) { s with heap:=s.heap.push { cls:=.type "tuple",data:=.seq ((List.replicate k.toNat its).foldl (·++·) #[]) } }) (hsz:((List.replicate k.toNat its).foldl (·++·) #[]).size<=sizeLine) :
  wpAny (model prog w) A (Builtin.«tuple.__mul__» ⟨[.ref a,.int k t],[]⟩) P E s:=by
 show wpAny _ _ (asIndex (.int k t) >>= _) _ _ s;refine yaa ?_;unfold asIndex;refine yaa (yae ?_);dsimp only;refine yae ?_
 have e0:(decide (k < -(2 ^ 63))||decide (k ≥ 2 ^ 63))=false:=by
  rw [Bool.or_eq_false_iff];refine ⟨yaW ?_,yaW ?_⟩
  ·omega
  ·omega
 rw [e0];simp only [yaM,ybL];refine yaa (ycW ho hd ?_)
 have e1:(its.isEmpty||k == 1)=false:=by rw [hne,Bool.false_or];simp;omega
 rw [e1];simp only [yaM,ybL]
 have e2:(decide (k<=0)||its.isEmpty)=false:=by rw [hne,Bool.or_false];exact yaW (by omega)
 rw [e2];simp only [yaM,ybL];rw [if_neg (by omega)]
 have e3:Builtin.Tuple.tupleTooMany (its.size*k)=false:=by
  unfold Builtin.Tuple.tupleTooMany;refine yaW ?_
  have:(1000000:Int)<=(sizeLine:Int):=by decide
  omega
 rw [e3];simp only [yaM,ybL];unfold Builtin.Tuple.tupleExact;exact yaa (yaX (yae h) hsz)
def zgJ(ho:s.heap.get? a=some o)(hc:o.cls=.type "tuple")(hd:o.data=.seq its n)(h:P (.done (.ret (.ref a))) s) :
  wpAny (model prog w) A (Builtin.«tuple.__mul__» ⟨[.ref a,.int 1 t],[]⟩) P E s:=by
 show wpAny _ _ (asIndex (.int 1 t) >>= _) _ _ s;refine yaa ?_;unfold asIndex;refine yaa (yae ?_);dsimp only;refine yae ?_
 have e0:(decide ((1:Int) < -(2 ^ 63))||decide ((1:Int) ≥ 2 ^ 63))=false:=by decide
 rw [e0];simp only [yaM,ybL];refine yaa (ycW ho hd ?_)
 have e1:(its.isEmpty||(1:Int) == 1)=true:=by simp
 rw [e1];simp only [ybT];unfold Builtin.Tuple.tupleIsExact;refine yaa (yaa (ycv (T:="tuple") ⟨o,ho,hc⟩ (yae ?_)));simp only [yb8,ybT];exact yaa (ycL (yae h))
def zpX{a:Addr}{o:Obj}{its:Array Value}{n:Nat}{k:Int}{t:Tok}{Q:Z5}(ho:s.heap.get? a=some o)(hc:o.cls=.type "tuple")(hd:o.data=.seq its n)(hne:its.isEmpty=false)(h2:2<=k)(hz:(its.size:Int)*k<=1000000)(hk:k<=1000)
  (h:Q (.ref s.heap.objs.size) { s with heap:=s.heap.push { cls:=.type "tuple",data:=.seq ((List.replicate k.toNat its).foldl (·++·) #[]) } }) (hsz:((List.replicate k.toNat its).foldl (·++·) #[]).size<=sizeLine) :
  wpAny (model prog w) A (binaryOp .Mult (.ref a) (.int k t)) Q E s:=by
 have hT:s.TypeIs (.ref a) "tuple":=⟨o,ho,hc⟩
 refine yb5 (T:="tuple") (U:="int") (by decide) hT (fun s'=>ycM s' k t) zdB F.fills_int_mul ybX zfF F.slot_int_index.lookup
  (ycc ybX (ycM s k t) F.entry_int_rmul (yc2 _ _) (zew k t a o hc hd) ⟨ho,rfl,hT,?_⟩)
 exact yaU ycz hT F.entry_tuple_mul (zgK ho hc hd hne h2 hz hk ⟨_,rfl,h⟩ hsz) (F.args_tuple_mul_2 _ _)
def zm8(ho:s.heap.get? a=some o)(hc:o.cls=.type "tuple")(hd:o.data=.seq its n)(h:Q (.ref a) s):wpAny (model prog w) A (binaryOp .Mult (.ref a) (.int 1 t)) Q E s:=by
 have hT:s.TypeIs (.ref a) "tuple":=⟨o,ho,hc⟩
 refine yb5 (T:="tuple") (U:="int") (by decide) hT (fun s'=>ycM s' 1 t) zdB F.fills_int_mul ybX zfF F.slot_int_index.lookup
  (ycc ybX (ycM s 1 t) F.entry_int_rmul (yc2 _ _) (zew 1 t a o hc hd) ⟨ho,rfl,hT,?_⟩)
 exact yaU ycz hT F.entry_tuple_mul (zgJ ho hc hd ⟨_,rfl,h⟩) (F.args_tuple_mul_2 _ _)
end
end PySem
namespace L2
open PySem PySem.Spec PyProof.Rows
inductive D where
 | non | bl (b:Bool) | int (i:Int) | str (x:Str) | tup (l:List D) | lst (l:List D)
section
variable{X:Cx}
theorem zpG:OpR X (binaryOp .Mult) (fun x y H Q=>∃(p:Addr) (k:Int) (xs:List V),x=.ref p/\y=.int k/\SqT X.K H p xs/\xs≠[]/\2<=k/\k<=1000/\xs.length<=1000/\∀l,H l=none->Q (.ref l) (upd H l (.tup (List.replicate k.toNat xs).flatten))):=by
 intro pins s σ H x y v u Q I rx ry h;obtain ⟨p,k,xs,rfl,rfl,hq,hne,h2,hk,hx,q⟩:=h;cases rx;obtain ⟨t,rfl⟩:=ry;obtain ⟨its,rv,⟨o,ho,hc,n,hd⟩,_⟩:=I.tuple hq;have hl:=rv.length
 have hnew:(List.replicate k.toNat its.toArray).foldl (·++·) #[]=(List.replicate k.toNat its).flatten.toArray:=by
  have:=zff its k.toNat [];rwa [List.nil_append] at this
 have hsz:(List.replicate k.toNat its).flatten.length<=1000000:=by
  rw [zie];exact yak (ybo (show k.toNat<=1000 by omega) (show its.length<=1000 by omega)) (by decide)
 have hline:(1000000:Nat)<=sizeLine:=by decide
 refine zpX ho hc hd ?_ h2 ?_ hk ?_ ?_
 ·have:its≠[]:=fun z=>hne (by cases xs with | nil=>rfl | cons a r=>rw [z] at hl;cases hl)
  simpa using this
 ·rw [yah];have:=Int.mul_le_mul (show (its.length:Int)<=1000 by omega) hk (by omega) (by omega);omega
 ·rw [hnew];refine ⟨.ref s.heap.objs.size,_,I.laid (t':=s.toks) (o:=.tup (List.replicate k.toNat xs).flatten) (fun b ob q=>yag _ q) (yaj _) ?_,rfl,q _ (I.hok.fresh (yaj _))⟩;refine ⟨?_,_,rv.rep k.toNat,znY.new _ _⟩;rw [zie] at hsz ⊢;rw [<-hl] at hsz;omega
 ·rw [hnew,yah];omega
end
end L2
namespace HT
open PySem PySem.Spec PyProof.Rows L2
section
variable{prog:Program}{w:World}{A:Around}{E:Z5}{s:Shared}
def zef{t sl:Addr}{items:Array Value}{vl vu:Value}{lo hi:Option Int}{Q:Z5}(ht:IsTup s.heap t items)(hs:s.heap.IsSliceOf sl vl vu .none)(pl:IsPart vl lo)(pu:IsPart vu hi)
  (h1:sIx items.size 0 lo=0) (h2:sIx items.size items.size hi=items.size) (h:Q (.ref t) s):wpAny (model prog w) A (getItem (.ref t) (.ref sl)) Q E s:=by
 obtain ⟨os,hos,hcs,hds⟩:=id hs;have hTs:s.TypeIs (.ref sl) "slice":=⟨os,hos,hcs⟩;unfold getItem
 try with_reducible refine ybr ?_
 first | refine yaa (yae ?_) | skip
 refine yaa (wpAny_sequenceKey ht.typeIs (by decide) ?_)
 refine yaa (yaV (name:=Str.ofString "__getitem__") ht.typeIs yaY
  (yaU yaY ht.typeIs entry_tuple_getitem ?_ (args_tuple_getitem _ _)))
 show wpAny _ _ (Builtin.Tuple.tupleItemsOf (.ref t) >>= _) _ _ s;refine yaa (tupleItemsOf_ ht ?_);refine yaa (ycv hTs ?_);rw [if_pos (by decide)];refine yaa (zcR hs pl pu ?_);rw [h1,h2];show wpAny _ _ (if ((((0:Nat):Int) == 0&&(1:Int) == 1&&(items.size-0) == items.size)=true) then _ else _) _ _ s;rw [if_pos (by simp)];unfold Builtin.Tuple.tupleIsExact;refine yaa (yaa (ycv ht.typeIs (yae ?_)));simp only [yb8,ybT];refine yaa (ycL ?_)
 first
  | exact yae ⟨_,rfl,yae h⟩
  | exact yaa (yae (yae ⟨_,rfl,yae h⟩))
end
end HT
namespace L2
open PySem PySem.Spec PyProof.Rows
def zjA:SlR X (fun x lo hi H Q=>∃(a:Addr) (xs:List V),x=.ref a/\SqT X.K H a xs/\HT.sIx xs.length 0 lo=0/\HT.sIx xs.length xs.length hi=xs.length/\Q (.ref a) H):=by
 intro pins s σ H x v vl vu lo hi sl Q I rx hs pl pu h;obtain ⟨a,xs,rfl,hx,h1,h2,q⟩:=h;cases rx;obtain ⟨its,r,ht,hz⟩:=I.tuple hx
 have hlen:its.toArray.size=xs.length:=by rw [yah];exact r.length.symm
 refine ⟨"tuple",_,yaY.lookup,ht.typeIs,?_⟩;exact HT.zef ht hs pl pu (by rw [hlen];exact h1) (by rw [hlen];exact h2) ⟨.ref a,H,I,rfl,q⟩
mutual
def D.py:D->PyData
 | .non=>.none
 | .bl b=>.bool b
 | .int i=>.int i
 | .str x=>.str x
 | .tup l=>.tuple (D.pys l)
 | .lst l=>.list (D.pys l)
def D.pys:List D->List PyData
 | []=>[]
 | d::l=>d.py::D.pys l
end
mutual
def D.fit:Nat->D->Bool
 | _,.non=>true
 | _,.bl _=>false
 | _,.int _=>true
 | _,.str x=>PyData.strOk x
 | 0,.tup _=>false
 | n+1,.tup l=>D.fits n l
 | 0,.lst _=>false
 | n+1,.lst l=>D.fits n l
def D.fits:Nat->List D->Bool
 | _,[]=>true
 | n,d::l=>d.fit n&&D.fits n l
end
theorem D.fits_iff:∀{l:List D},D.fits n l=true↔∀d∈l,d.fit n=true
 | []=>by simp [D.fits]
 | d::l=>by simp [D.fits,D.fits_iff (l:=l)]
mutual
theorem D.lay:∀{n:Nat} {d:D},d.fit n=true->d.py.canLay0=true/\d.py.depth<=n
 | _,.non,_=>⟨rfl,yba _⟩
 | _,.bl _,h=>by simp [D.fit] at h
 | _,.int _,_=>⟨rfl,yba _⟩
 | _,.str x,h=>⟨by simpa [D.fit,D.py,PyData.canLay0] using h,yba _⟩
 | 0,.tup _,h=>by simp [D.fit] at h
 | 0,.lst _,h=>by simp [D.fit] at h
 | n+1,.tup l,h=>by
  have h':D.fits n l=true:=by simpa [D.fit] using h
  obtain ⟨a,b⟩:=D.lays h';exact ⟨by simpa [D.py,PyData.canLay0] using a,by simp only [D.py,PyData.depth];omega⟩
 | n+1,.lst l,h=>by
  have h':D.fits n l=true:=by simpa [D.fit] using h
  obtain ⟨a,b⟩:=D.lays h';exact ⟨by simpa [D.py,PyData.canLay0] using a,by simp only [D.py,PyData.depth];omega⟩
theorem D.lays:∀{n:Nat} {l:List D},D.fits n l=true->PyData.canLayAll0 (D.pys l)=true/\PyData.depthAll (D.pys l)<=n
 | _,[],_=>⟨rfl,yba _⟩
 | n,d::l,h=>by
  simp only [D.fits,yac] at h;obtain ⟨a,b⟩:=D.lay h.1;obtain ⟨c,e⟩:=D.lays h.2;exact ⟨by simp [D.pys,PyData.canLayAll0,a,c],by simp only [D.pys,PyData.depthAll];omega⟩
end
section
variable{X:Cx}
def zh9(hl:d.canLay0=true)(r:Reads h v d as):SeqAt.readOf h v=d:=by
 have hx:∃d as,Reads h v d as:=⟨d,as,r⟩;unfold SeqAt.readOf;rw [dif_pos hx];obtain ⟨bs,rb⟩:=hx.choose_spec;exact (SeqAt.Reads.unique _ _ _ _ _ hl r rb).symm
end
noncomputable def zjK:Option Int->Value->Bool
 | none,.none=>true
 | some i,v=>Value.isInt i v
 | _,_=>false
theorem za0:∀{k:Option Int} {v:Value},zjK k v=true->(k=none/\v=.none)\/∃i t,k=some i/\v=.int i t
 | none,v,h=>by
  cases v<;>simp [zjK] at h
  exact .inl ⟨rfl,rfl⟩
 | some i,v,h=>by
  obtain ⟨t,e⟩:=yc0 (k:=i) (v:=v) (by simpa [zjK] using h);exact .inr ⟨i,t,rfl,e⟩
noncomputable def ziY:Int:=reduceHash 0xFCA86420
def zlF{prog:Program}{w:World}{A:Around}{E:Z5}{s:Shared}{Q:Int->Shared->Prop}(h:Q ziY { s with toks:=s.toks+1 }):wpAny (model prog w) A (pyHash .none) Q E s :=
 PySem.W.pyHash_slot (T:="NoneType") rfl F.slot_NoneType_hash F.entry_NoneType_hash (F.args_NoneType_hash_1 _) (beq_builtin_none _) (.inl rfl) (yaa (yae (yaa (wpAny_mkInt (yae ⟨_,_,rfl,h⟩)))))
def zct(prog:Program)(w:World):KeyKind prog w (Option Int) where
 is:=zjK
 hash:=fun k=>match k with | none=>ziY | some i=>hashInt i
 inj:=fun v a b ha hb=>by
  rcases za0 ha with ⟨rfl,rfl⟩ | ⟨i,t,rfl,rfl⟩<;>rcases za0 hb with ⟨rfl,e⟩ | ⟨j,u,rfl,e⟩<;>cases e<;>rfl
 byValue:=fun k v h=>by
  rcases za0 h with ⟨rfl,rfl⟩ | ⟨i,t,rfl,rfl⟩<;>rfl
 pyHash:=fun {A E s k v Q} h hq=>by
  rcases za0 h with ⟨rfl,rfl⟩ | ⟨i,t,rfl,rfl⟩
  ·exact zlF hq
  ·exact wpAny_pyHash_int hq
 eqBool:=fun {A E s a b u v Q} ha hb hq=>by
  rcases za0 ha with ⟨rfl,rfl⟩ | ⟨i,t,rfl,rfl⟩<;>rcases za0 hb with ⟨rfl,rfl⟩ | ⟨j,u,rfl,rfl⟩
  ·unfold PySem.eqBool;refine ybr ?_;refine ych (fun _=>yaa (ycL (yae (by simpa using hq)))) (fun z=>absurd rfl z)
  ·exact SeqAt.EqAt.none_int j u prog w E Q (by simpa using hq)
  ·exact SeqAt.EqAt.int_none i t prog w E Q (by simpa using hq)
  ·refine SeqAt.EqAt.int_int i t j u prog w E Q ?_
   have e:decide (some i=some j)=(i == j):=by
    rw [ycg];simp
   rw [<-e];exact hq
 «strs»:=fun k x t v h=>by
  rcases za0 h with ⟨_,e⟩ | ⟨i,u,_,e⟩<;>cases e
noncomputable abbrev NK:=Int×List (Option Int)
noncomputable def zeb:Option Int->PyData | none=>.none | some i=>.int i
noncomputable def zd7(prog:Program)(w:World)(h:Heap)(k:NK)(a:Addr):Prop:=∃o items n t b,h.get? a=some o/\o.cls=.type "tuple" /\ o.data=.seq items n/\items.toList=[.int k.1 t,.ref b]/\IsTupleKey (zct prog w) h k.2 b
section
variable{prog:Program}{w:World}{A:Around}{E:Z5}{s:Shared}
def zm7(prog:Program)(w:World)(k:NK):Int:=reduceHash (Builtin.Tuple.tupleHashOf [hashInt k.1,tupleKeyHash (zct prog w) k.2])
def zd7.typeIs(x:zd7 prog w s.heap k a):s.TypeIs (.ref a) "tuple":=let ⟨o,_,_,_,_,ho,hc,_⟩:=x;⟨o,ho,hc⟩
theorem zdK:∀{l:Z4} {vs:List Value},ItemsAre (zct prog w) l vs->ReadsAll h vs (l.map zeb) []
 | _,_,.nil=>.nil
 | _,_,.cons h1 r=>by
  rcases za0 h1 with ⟨rfl,rfl⟩ | ⟨i,t,rfl,rfl⟩
  ·exact .cons (as:=[]) (bs:=[]) .none (zdK r)
  ·exact .cons (as:=[]) (bs:=[]) (.int i t) (zdK r)
def zd7.reads(x:zd7 prog w h k a):Reads h (.ref a) (.tuple [.int k.1,.tuple (k.2.map zeb)]) []:=by
 obtain ⟨o,items,n,t,b,ho,hc,hd,hi,ob,its,m,hob,hcb,hdb,hib⟩:=x;refine .tuple ho hc hd ?_;rw [hi];exact .cons (as:=[]) (bs:=[]) (.int _ _) (.cons (as:=[]) (bs:=[]) (.tuple hob hcb hdb (zdK hib)) .nil)
theorem zhc:∀{l m:Z4},PyData.eqvAll (l.map zeb) (m.map zeb)=decide (l=m)
 | [],[]=>by simp [PyData.eqvAll]
 | [],_::_=>by simp [PyData.eqvAll]
 | _::_,[]=>by simp [PyData.eqvAll]
 | x::l,y::m=>by
  have ih:=zhc (l:=l) (m:=m);simp only [yav,PyData.eqvAll,ih]
  cases x<;>cases y<;>simp [zeb,PyData.eqv]
  rw [ycg];simp
theorem zeJ:∀{l:Z4},PyData.canLayAll0 (l.map zeb)=true/\PyData.depthAll (l.map zeb)=0
 | []=>⟨rfl,rfl⟩
 | x::l=>by
  obtain ⟨a,b⟩:=zeJ (l:=l)
  cases x<;>simp [zeb,PyData.canLayAll0,PyData.depthAll,PyData.canLay0,PyData.depth,a,b]
def zdZ(prog:Program)(w:World):HeapKind prog w NK where
 is:=zd7 prog w
 hash:=zm7 prog w
 draws:=fun k=>1+(k.2.length+1)+1
 room:=fun A=>A.units+8<cLine
 inj:=fun {h a x y} hx hy=>by
  obtain ⟨o,items,n,t,b,ho,hc,hd,hi,kx⟩:=hx;obtain ⟨o',items',n',t',b',ho',hc',hd',hi',ky⟩:=hy;rw [ho] at ho';cases ho';rw [hd] at hd';cases hd';rw [hi] at hi';simp only [List.cons.injEq,Value.int.injEq,Value.ref.injEq,and_true] at hi';obtain ⟨⟨e1,_⟩,e2⟩:=hi';subst e2;exact Prod.ext e1 (kx.inj ky)
 keeps:=fun {h h' k a d o es ep} x ho hd hs=>by
  obtain ⟨o1,items,n,t,b,ho1,hc,hd1,hi,kx⟩:=x;refine ⟨o1,items,n,t,b,(hs.2 a ?_).trans ho1,hc,hd1,hi,kx.keeps ho hd hs⟩;rintro rfl;rw [ho] at ho1;cases ho1;rw [hd] at hd1;cases hd1
 pyHash:=fun {A E s k a Q} hu x hq=>by
  have hT:=zd7.typeIs (prog:=prog) (w:=w) x;obtain ⟨o,items,n,t,b,ho,hc,hd,hi,kx⟩:=x;refine PySem.W.pyHash_slot (T:="tuple") hT F.slot_tuple_hash F.entry_tuple_hash (F.args_tuple_hash_1 _) (beq_builtin_none _) (.inr (by omega)) ?_;show wpAny _ _ (Builtin.Tuple.tupleItemsOf (.ref a) >>= _) _ _ s;refine yaa (ycW ho hd ?_);refine yaa ?_;rw [<-ycX,hi];refine ycA _ (fun zbW (r:Array Int) s'=>(zbW=[.int k.1 t,.ref b]/\r.toList=[]/\s'=s)\/(zbW=[.ref b]/\r.toList=[hashInt k.1]/\s'={ s with toks:=s.toks+1 })\/(zbW=[]/\r.toList=[hashInt k.1,tupleKeyHash (zct prog w) k.2]/\s'={ s with toks:=s.toks+1+(k.2.length+1) })) _ ?_ ?_ _ _ (.inl ⟨rfl,rfl,rfl⟩)
  ·rintro x zbW r s' (⟨e,hr,rfl⟩ | ⟨e,hr,rfl⟩ | ⟨e,hr,rfl⟩)
   ·injection e with e1 e2
    subst e1 e2;refine yaa (wpAny_pyHash_int ?_)
    first
     | exact yae (.inr (.inl ⟨rfl,by simp [hr],rfl⟩))
     | exact yaa (yae (yae (.inr (.inl ⟨rfl,by simp [hr],rfl⟩))))
   ·injection e with e1 e2
    subst e1 e2;refine yaa (wpAny_pyHash_tuple (A:=A.in1) (by show A.units+1<cLine;omega) kx ?_)
    first
     | exact yae (.inr (.inr ⟨rfl,by simp [hr],rfl⟩))
     | exact yaa (yae (yae (.inr (.inr ⟨rfl,by simp [hr],rfl⟩))))
   ·cases e
  ·rintro r s' (⟨e,_⟩ | ⟨e,_⟩ | ⟨_,hr,rfl⟩)
   ·cases e
   ·cases e
   ·show wpAny _ _ (retInt (Builtin.Tuple.tupleHashOf r.toList)) _ _ _;rw [hr];refine yaa (wpAny_mkInt (yae ⟨_,_,rfl,?_⟩))
    have e:s.toks+1+(k.2.length+1)+1=s.toks+(1+(k.2.length+1)+1):=by omega
    show Q _ { s with toks:=s.toks+1+(k.2.length+1)+1 };rw [e];exact hq
 eqBool:=fun {A E s x y a b Q} hu hx hy hq=>by
  refine SeqAt.eqAt_reads _ _ A s (.ref a) (.ref b) [] [] hx.reads hy.reads ?_ ?_ ?_ prog w E Q ?_
  ·simp [PyData.canLay0,PyData.canLayAll0,zeJ.1]
  ·simp [PyData.canLay0,PyData.canLayAll0,zeJ.1]
  ·have h1:(PyData.tuple [.int x.1,.tuple (x.2.map zeb)]).depth<=3:=by
    simp [PyData.depth,PyData.depthAll,zeJ.2]
   have:min (PyData.tuple [.int x.1,.tuple (x.2.map zeb)]).depth (PyData.tuple [.int y.1,.tuple (y.2.map zeb)]).depth<=3:=yak (Nat.min_le_left _ _) h1;omega
  ·have e:(PyData.tuple [.int x.1,.tuple (x.2.map zeb)]).eqv (.tuple [.int y.1,.tuple (y.2.map zeb)])=decide (x=y):=by
    simp only [PyData.eqv,PyData.eqvAll,zhc];rw [ycg];simp [Prod.ext_iff]
   rw [e];exact hq
 quiet:=fun {A E s k a Q} x hq=>by
  have hT:=zd7.typeIs (prog:=prog) (w:=w) x;obtain ⟨o,items,n,t,b,ho,hc,hd,hi,kx⟩:=x;have hTb:=kx.typeIs;obtain ⟨ob,its,m,hob,hcb,hdb,hib⟩:=kx
  have low:wpAny (model prog w) A (eqIsQuiet 7 (.ref b)) (fun r s'=>r=true/\s'=s) E s:=by
   unfold eqIsQuiet;refine yaa (wpAny_specialOf hTb F.slot_tuple_eq.lookup ?_);show wpAny _ _ (isInstance (.ref b) (.type "tuple") >>= _) _ _ s;refine yaa (ybS hTb isSubtype_tuple_tuple ?_);simp only [ycI,yaM,ybL];refine yaa (ybv hob hdb (yaa ?_));show wpAny _ _ (forIn its _ _) _ _ s;rw [<-ycX];refine ycA _ (fun zbW r s'=>r.1=none/\s'=s/\∀v∈zbW,carriedByValue v=true) _ ?_ ?_ _ _ ⟨rfl,rfl,hib.byValue⟩
   ·rintro v zbW r s' ⟨hr,rfl,hall⟩;rw [eqIsQuiet_byValue _ (hall v yaA)];refine yaa (yae ?_);simp only [ycI,yaM,ybL];exact yae ⟨rfl,rfl,fun z hz=>hall z (yaw _ hz)⟩
   ·rintro ⟨r1,r2⟩ s' ⟨hr,rfl,_⟩;simp only at hr;subst hr;exact yae ⟨rfl,rfl⟩
  unfold eqIsQuiet;refine yaa (wpAny_specialOf hT F.slot_tuple_eq.lookup ?_);show wpAny _ _ (isInstance (.ref a) (.type "tuple") >>= _) _ _ s;refine yaa (ybS hT isSubtype_tuple_tuple ?_);simp only [ycI,yaM,ybL];refine yaa (ybv ho hd (yaa ?_));show wpAny _ _ (forIn items _ _) _ _ s;rw [<-ycX,hi];refine ycA _ (fun zbW r s'=>r.1=none/\s'=s/\(zbW=[.int k.1 t,.ref b]\/zbW=[.ref b]\/zbW=[])) _ ?_ ?_ _ _ ⟨rfl,rfl,.inl rfl⟩
  ·rintro v zbW r s' ⟨hr,rfl,(e | e | e)⟩
   ·injection e with e1 e2
    subst e1 e2;rw [eqIsQuiet_byValue _ rfl];refine yaa (yae ?_);simp only [ycI,yaM,ybL];exact yae ⟨rfl,rfl,by simp⟩
   ·injection e with e1 e2
    subst e1 e2;refine yaa (ybE low (fun r' s'' hz=>?_) fun _ _ z=>z);obtain ⟨rfl,rfl⟩:=hz;simp only [ycI,yaM,ybL];exact yae ⟨rfl,rfl,by simp⟩
   ·cases e
  ·rintro ⟨r1,r2⟩ s' ⟨hr,rfl,_⟩;simp only at hr;subst hr;exact yae hq
end
noncomputable def oV:Option Int->V | none=>.non | some i=>.int i
noncomputable def DN(P:Program)(w:World)(a:Addr)(xs:List (NK×Addr×Value))(h:Heap):Prop :=
 ∃o es ep,h.get? a=some o/\o.ExactDict/\o.data=.dict es ep/\es.toList=xs.map (entryOfKey (zdZ P w))/\(xs.map (·.1)).Nodup/\(a == sysModules)=false
noncomputable def zis(H:Hp)(kb:Addr)(k:NK):Prop:=∃b,H kb=some (.tup [.int k.1,.ref b])/\H b=some (.tup (k.2.map oV))
noncomputable def znZ(H:Hp)(xs:List (NK×Addr×Value))(m:List (NK×V)):Prop:=Paired (fun (x:NK×Addr×Value) (p:NK×V)=>x.1=p.1/\zis H x.2.1 x.1/\zbr p.2 x.2.2) xs m
def zjk:∀h1 h2:Heap,DN P w a xs h1->(∀o,h1.get? a=some o->h2.get? a=some o)->DN P w a xs h2:=fun h1 h2 ⟨o,es,ep,e,r⟩ k=>⟨o,es,ep,k _ e,r⟩
section
variable{X:Cx}{pins:Z3}{σ:St}{H:Hp}{s:Shared}
theorem zeO:∀{l:Z4} {its:List Value},Vals (l.map oV) its->ItemsAre (zct X.prog X.w) l its
 | [],_,.nil=>.nil
 | none::l,_,.cons r t=>by
  cases r;exact .cons rfl (zeO t)
 | some i::l,_,.cons r t=>by
  obtain ⟨u,rfl⟩:=r;exact .cons (by simp [zct,zjK,Value.isInt]) (zeO t)
def Inv.nest(I:Inv X pins σ H s)(h:zis H kb k):zd7 X.prog X.w s.heap k kb:=by
 obtain ⟨b,h1,h2⟩:=h;obtain ⟨its,rv,⟨o,ho,hc,n,hd⟩,_⟩:=I.tuple (SqT.of (K:=X.K) h1);obtain ⟨its2,rv2,⟨o2,ho2,hc2,n2,hd2⟩,_⟩:=I.tuple (SqT.of (K:=X.K) h2)
 cases rv with
 | cons r1 rr =>
  cases rr with
  | cons r2 rr =>
   cases rr;obtain ⟨t,rfl⟩:=r1;cases r2;exact ⟨o,_,n,t,b,ho,hc,hd,rfl,o2,_,n2,ho2,hc2,hd2,by simpa using zeO rv2⟩
def znZ.keys(I:Inv X pins σ H s):znZ H xs m->∀x∈xs,zd7 X.prog X.w s.heap x.1 x.2.1:=by
 intro h
 induction h with
 | nil=>intro x hx;simp at hx
 | cons h t ih =>
  intro x hx
  rcases yau.mp hx with rfl | hx
  ·exact I.nest h.2.1
  ·exact ih x hx
def Inv.ndict(I:Inv X pins σ H s)(h:H a=some (.ext (DN X.prog X.w a xs)))(e:znZ H xs m):s.heap.DictOfH (zdZ X.prog X.w) a xs/\(a == sysModules)=false:=by
 obtain ⟨⟨o,es,ep,h1,h2,h3,h4,h5,h6⟩,_⟩:=I.hok a _ h;exact ⟨⟨o,es,ep,h1,h2,h3,h4,e.keys I,h5⟩,h6⟩
def zem(e:znZ H xs m)(k:NK):(m.lookup k=none/\atKey xs k=none)\/∃c p,m.lookup k=some c/\atKey xs k=some p/\zbr c p.2:=by
 induction e with
 | nil=>exact .inl ⟨rfl,rfl⟩
 | @cons x p l1 l2 h t ih =>
  obtain ⟨h1,h2,h3⟩:=h
  by_cases hk:x.1=k
  ·refine .inr ⟨p.2,x.2,?_,?_,h3⟩
   ·obtain ⟨pk,pc⟩:=p;simp only at h1;subst h1;rw [yaz,hk];simp
   ·simp [atKey,hk]
  ·have hk':¬ p.1=k:=by rw [<-h1];exact hk
   have e1:List.lookup k (p::l2)=List.lookup k l2:=by
    obtain ⟨pk,pc⟩:=p;rw [yaz]
    have:(k == pk)=false:=by
     rw [yaR];exact fun z=>hk' z.symm
    rw [this]
   have e2:atKey (x::l1) k=atKey l1 k:=by simp [atKey,ybY,hk]
   rw [e1,e2];exact ih
theorem zom(hu:X.A.units+16<cLine):OpR X (compareOp .NotIn) (fun x y H Q=>∃kb a k xs m,x=.ref kb/\y=.ref a/\zis H kb k/\H a=some (.ext (DN X.prog X.w a xs))/\znZ H xs m/\Q (.bl (m.lookup k).isNone) H):=by
 intro pins s σ H x y v u Q I rx ry h;obtain ⟨kb,a,k,xs,m,rfl,rfl,hk,hx,he,q⟩:=h;cases rx;cases ry;obtain ⟨hm,hd⟩:=I.ndict hx he;refine wpAny_notIn_heap (knd:=zdZ X.prog X.w) (k:=k) (by show X.A.units+1+8<cLine;omega) (I.nest hk) hd hm ⟨.bl _,H,I.tok _,?_,q⟩
 rcases zem he k with ⟨e1,e2⟩ | ⟨c,p,e1,e2,_⟩<;>rw [e1,e2]<;>rfl
def zsZ(hu:X.A.units+16<cLine):IxR X (fun x y H Q=>∃a kb k xs m c,x=.ref a/\y=.ref kb/\zis H kb k/\H a=some (.ext (DN X.prog X.w a xs))/\znZ H xs m/\m.lookup k=some c/\Q c H):=by
 intro value slice pins s σ H x y v u Q I rx ry h hs;obtain ⟨a,kb,k,xs,m,c,rfl,rfl,hk,hx,he,hl,q⟩:=h;cases rx;cases ry;obtain ⟨hm,hd⟩:=I.ndict hx he
 rcases zem he k with ⟨e1,_⟩ | ⟨c',p,e1,e2,r⟩
 ·rw [e1] at hl;cases hl
 ·rw [e1] at hl;cases hl;exact ycn (x:=p.2) hm.typeIs slot_dict_getitem.lookup (wpAny_getItem_heap (knd:=zdZ X.prog X.w) (k:=k) (by show X.A.units+1+8<cLine;omega) (I.nest hk) hm e2 ⟨rfl,c,H,I.tok _,r,q⟩) hs
theorem zph(hu:X.A.units+16<cLine):zvQ X (fun o i v H Q=>∃a kb k xs m,o=.ref a/\i=.ref kb/\zis H kb k/\H a=some (.ext (DN X.prog X.w a xs))/\znZ H xs m/\m.lookup k=none/\m.length<=1000000/\∀u,zbr v u->Q (upd H a (.ext (DN X.prog X.w a (xs++[(k,kb,u)]))))):=by
 intro pins s σ H o i v ov iv u Q I ro ri rv h;obtain ⟨a,kb,k,xs,m,rfl,rfl,hk,hx,he,hl,hz,q⟩:=h;cases ro;cases ri;obtain ⟨hm,hd⟩:=I.ndict hx he;have hlen:xs.length=m.length:=Paired.length he
 have e2:atKey xs k=none:=by
  rcases zem he k with ⟨_,e2⟩ | ⟨c',p,e1,_,_⟩
  ·exact e2
  ·rw [e1] at hl;cases hl
 refine wpAny_setItem_heap (knd:=zdZ X.prog X.w) (k:=k) (by show X.A.units+1+8<cLine;omega) (I.nest hk) hm (fun h' hm' sb=>?_) (by rw [hlen];exact yak hz (by decide));rw [storedH_new e2] at hm';obtain ⟨o,es,ep,g1,g2,g3,g4,g5,g6⟩:=hm';have dn:DN X.prog X.w a (xs++[(k,kb,u)]) h':=⟨o,es,ep,g1,g2,g3,g4,g6,hd⟩;refine ⟨upd H a (.ext (DN X.prog X.w a (xs++[(k,kb,u)]))),?_,q u rv⟩;exact I.write (x:=a) (e:=a) (by rw [hx];trivial) (.inl rfl) (fun b o hb z=>(sb.2 b hb).trans z) ⟨_,g1⟩ ⟨dn,⟨_,g1⟩,zjk⟩
noncomputable def zup(P:Program)(w:World):TE:=fun _ H Q=>∀p,H p=none->Q (.ref p) (upd H p (.ext (DN P w p [])))
def zpE:PE X (.Dict [] [] pos) (zup X.prog X.w):=fun pins s σ H Q I h=>by
 have big:sysModules<s.heap.objs.size:=Nat.lt_trans (show sysModules<mainGlobals by decide) (I.mod.glob.keeps I.bk).lt;have hne:(s.heap.objs.size == sysModules)=false:=yaR.mpr (Ne.symm (yax big));have dn:DN X.prog X.w s.heap.objs.size [] (s.heap.push { cls:=.type "dict",data:=.dict #[] }):=⟨_,#[],0,yao _ rfl,⟨rfl,rfl,rfl⟩,rfl,rfl,List.nodup_nil,hne⟩;refine wpAny_Dict_empty ⟨.ref s.heap.objs.size,upd H s.heap.objs.size (.ext (DN X.prog X.w s.heap.objs.size [])),?_,rfl,h _ (I.hok.fresh (yaj _))⟩;exact I.laid (a:=s.heap.objs.size) (t':=s.toks) (fun _ _ q=>yag _ q) (yaj _) ⟨dn,⟨_,yao _ rfl⟩,zjk⟩
end
section
variable{X:Cx}{pins:Z3}{σ:St}{H:Hp}{s:Shared}{a:Addr}{y v:V}{u r:Value}{o:Option V}{A:Around}{E:Z5}
def Inv.big(I:Inv X pins σ H s):sysModules<s.heap.objs.size:=by
 have h:mainGlobals<s.heap.objs.size:=(I.mod.glob.keeps I.bk).lt;exact Nat.lt_trans (by decide) h
end
structure M1(X:Cx)(o:Expr)(m:Str)(apos:Pos)(e:Expr)(cpos:Pos):Prop where
 base:attributeBase o m X.env (eval o X.env)=eval o X.env
 few:((backTo cpos (starEach [e] X.env)).all (fun x=>!x.1)&&(backToKw cpos (keywordEach [] X.env)).all (fun x=>x.1.isSome)
  && decide (([e]:List Expr).length+([]:List Keyword).length+(if ([]:List Keyword).isEmpty then 0 else 1)<30))=true
 line:(apos.endLine == cpos.line)=true
 trees:backTo cpos (starEach [e] X.env)=[(false,eval e X.env)]
structure M2(X:Cx)(o:Expr)(m:Str)(apos:Pos)(e f:Expr)(cpos:Pos):Prop where
 base:attributeBase o m X.env (eval o X.env)=eval o X.env
 few:((backTo cpos (starEach [e,f] X.env)).all (fun x=>!x.1)&&(backToKw cpos (keywordEach [] X.env)).all (fun x=>x.1.isSome)
  && decide (([e,f]:List Expr).length+([]:List Keyword).length+(if ([]:List Keyword).isEmpty then 0 else 1)<30))=true
 line:(apos.endLine == cpos.line)=true
 trees:backTo cpos (starEach [e,f] X.env)=[(false,eval e X.env),(false,eval f X.env)]
noncomputable abbrev PA2:=(Int×Int)×Addr
noncomputable def DO(P:Program)(w:World)(a:Addr)(ps:List (Option Int×Int))(h:Heap):Prop:=∃vs,h.DictOf (zct P w) a vs/\Paired (fun (v:Option Int×Value) (p:Option Int×Int)=>v.1=p.1/\∃t,v.2=.int p.2 t) vs ps/\(a == sysModules)=false
def zjj:∀h1 h2:Heap,DO P w a ps h1->(∀o,h1.get? a=some o->h2.get? a=some o)->DO P w a ps h2:=fun h1 h2 ⟨vs,⟨o,es,ep,e,r⟩,q⟩ k=>⟨vs,⟨o,es,ep,k _ e,r⟩,q⟩
end L2
namespace S2
open PySem PySem.Spec PyProof.Rows L2
noncomputable abbrev St:=L2.St
inductive D where
 | non | bl (b:Bool) | int (i:Int) | str (x:Str) | tup (l:List D) | lst (l:List D) | dic (l:List (D×D)) | ref (n:Nat) | exc (c:Str) | scr (l:List Int)
inductive Root where
 | slot (i:Nat) | fld (n:Nat) (f:Str) | obj (n:Nat) | far
 deriving DecidableEq
noncomputable abbrev Ow:=Addr->Option Root
structure Cf where
 ad:Str->Addr
 K:PySem.W.Frag
 P:Program
 wo:PySem.World
noncomputable instance:CoeFun Cf (fun _=>Str->Addr):=⟨Cf.ad⟩
structure Wd where
 H:Hp
 ow:Ow
 mu:List Addr
noncomputable def oI:Option Int->D | none=>.non | some i=>.int i
def odD(ps:List (Option Int×Int)):List (D×D):=(.non,.non)::ps.map fun p=>(oI p.1,.int p.2)
inductive Exd(cl:Cf)(w:Wd):HO->List (D×D)->Prop
 | od {a:Addr} {ps:List (Option Int×Int)}:Exd cl w (.ext (DO cl.P cl.wo a ps)) (odD ps)
mutual
inductive Shd(cl:Cf)(w:Wd):V->D->Prop
 | non:Shd cl w .non .non
 | bl (b:Bool):Shd cl w (.bl b) (.bl b)
 | int (i:Int):Shd cl w (.int i) (.int i)
 | str (x:Str):Shd cl w (.str x) (.str x)
 | tup {a:Addr} {xs:List V} {ds:List D}:w.H a=some (.tup xs)->w.ow a=none->Shds cl w xs ds->Shd cl w (.ref a) (.tup ds)
 | lst {a:Addr} {xs:List V} {ds:List D}:w.H a=some (.lst xs)->w.ow a=none->Shds cl w xs ds->Shd cl w (.ref a) (.lst ds)
 | dicK {a:Addr} {kvs:List (Key×V)} {ds:List (D×D)}:w.H a=some (.dK kvs)->w.ow a=none->ShdK cl w kvs ds->Shd cl w (.ref a) (.dic ds)
 | dicX {a:Addr} {o:HO} {ds:List (D×D)}:w.H a=some o->w.ow a=none->Exd cl w o ds->Shd cl w (.ref a) (.dic ((.bl true,.non)::ds))
 | ref {n:Nat} {a:Addr}:w.mu[n]?=some a->Shd cl w (.ref a) (.ref n)
 | scr {a:Addr} {o:Obj} {l:List Int}:w.H a=some (.frz o (.lst (l.map V.int)))->w.ow a=none->Shd cl w (.ref a) (.scr l)
 | scrK {a:Addr} {l:List Int}:(∀H:Hp,SqL cl.K H a (l.map V.int))->Shd cl w (.ref a) (.scr l)
 | exc {a:Addr} {c:Str} {ob:Obj}:w.H a=some (.frz ob (.own a))->w.ow a=none->ob.cls=.ref (cl c)->Shd cl w (.ref a) (.exc c)
inductive Shds(cl:Cf)(w:Wd):List V->List D->Prop
 | nil:Shds cl w [] []
 | cons {v:V} {d:D} {vs:List V} {ds:List D}:Shd cl w v d->Shds cl w vs ds->Shds cl w (v::vs) (d::ds)
inductive ShdK(cl:Cf)(w:Wd):List (Key×V)->List (D×D)->Prop
 | nil:ShdK cl w [] []
 | consI {i:Int} {v:V} {d:D} {vs:List (Key×V)} {ds:List (D×D)}:Shd cl w v d->ShdK cl w vs ds->ShdK cl w ((.inl i,v)::vs) ((.int i,d)::ds)
 | consS {x:Str} {v:V} {d:D} {vs:List (Key×V)} {ds:List (D×D)}:Shd cl w v d->ShdK cl w vs ds->ShdK cl w ((.inr x,v)::vs) ((.str x,d)::ds)
end
structure Fut(w w':Wd):Prop where
 keep:∀a o,w.H a=some o->w.ow a=none->w'.H a=some o/\w'.ow a=none
 mu:∀(n:Nat) (a:Addr),w.mu[n]?=some a->w'.mu[n]?=some a
def Fut.refl(w:Wd):Fut w w:=⟨fun _ _ h k=>⟨h,k⟩,fun _ _ h=>h⟩
def Fut.trans(a:Fut w w1)(b:Fut w1 w2):Fut w w2:=⟨fun c o h k=>b.keep c o (a.keep c o h k).1 (a.keep c o h k).2,fun n c h=>b.mu n c (a.mu n c h)⟩
theorem Exd.up(f:Fut w w'):Exd cl w o ds->Exd cl w' o ds
 | .od=>.od
mutual
theorem Shd.up{cl:Cf}{w w':Wd}(f:Fut w w'):∀{v:V} {d:D},Shd cl w v d->Shd cl w' v d
 | _,_,.non=>.non
 | _,_,.bl b=>.bl b
 | _,_,.int i=>.int i
 | _,_,.str x=>.str x
 | _,_,.tup e k r=>.tup (f.keep _ _ e k).1 (f.keep _ _ e k).2 (Shds.up f r)
 | _,_,.lst e k r=>.lst (f.keep _ _ e k).1 (f.keep _ _ e k).2 (Shds.up f r)
 | _,_,.dicK e k r=>.dicK (f.keep _ _ e k).1 (f.keep _ _ e k).2 (ShdK.up f r)
 | _,_,.dicX e k x=>.dicX (f.keep _ _ e k).1 (f.keep _ _ e k).2 (x.up f)
 | _,_,.ref e=>.ref (f.mu _ _ e)
 | _,_,.scr e k=>.scr (f.keep _ _ e k).1 (f.keep _ _ e k).2
 | _,_,.scrK h=>.scrK h
 | _,_,.exc e k h=>.exc (f.keep _ _ e k).1 (f.keep _ _ e k).2 h
theorem Shds.up{cl:Cf}{w w':Wd}(f:Fut w w'):∀{vs:List V} {ds:List D},Shds cl w vs ds->Shds cl w' vs ds
 | _,_,.nil=>.nil
 | _,_,.cons r t=>.cons (Shd.up f r) (Shds.up f t)
theorem ShdK.up{cl:Cf}{w w':Wd}(f:Fut w w'):∀{vs:List (Key×V)} {ds:List (D×D)},ShdK cl w vs ds->ShdK cl w' vs ds
 | _,_,.nil=>.nil
 | _,_,.consI r t=>.consI (Shd.up f r) (ShdK.up f t)
 | _,_,.consS r t=>.consS (Shd.up f r) (ShdK.up f t)
end
section
variable{cl:Cf}{w:Wd}
theorem Shds.length:∀{vs:List V} {ds:List D},Shds cl w vs ds->vs.length=ds.length
 | _,_,.nil=>rfl
 | _,_,.cons _ t=>by rw [yan,yan,Shds.length t]
theorem Shds.get:∀{vs:List V} {ds:List D},Shds cl w vs ds->∀{i:Nat} {v:V},vs[i]?=some v->∃d,ds[i]?=some d/\Shd cl w v d
 | _,_,.nil,i,v,e=>by simp at e
 | _,_,.cons r _,0,v,e=>by simp at e;subst e;exact ⟨_,rfl,r⟩
 | _,_,.cons _ t,i+1,v,e=>by
  obtain ⟨d,h1,h2⟩:=Shds.get t (i:=i) (v:=v) (by simpa using e);exact ⟨d,by simpa using h1,h2⟩
theorem Shds.at:∀{vs:List V} {ds:List D},Shds cl w vs ds->∀{i:Nat} {d:D},ds[i]?=some d->∃v,vs[i]?=some v/\Shd cl w v d
 | _,_,.nil,i,v,e=>by simp at e
 | _,_,.cons r _,0,v,e=>by simp at e;subst e;exact ⟨_,rfl,r⟩
 | _,_,.cons _ t,i+1,v,e=>by
  obtain ⟨d,h1,h2⟩:=Shds.at t (i:=i) (d:=v) (by simpa using e);exact ⟨d,by simpa using h1,h2⟩
theorem Shds.append:∀{vs ws:List V} {ds es:List D},Shds cl w vs ds->Shds cl w ws es->Shds cl w (vs++ws) (ds++es)
 | _,_,_,_,.nil,s=>s
 | _,_,_,_,.cons r t,s=>.cons r (Shds.append t s)
theorem Shds.take:∀{vs:List V} {ds:List D} (n:Nat),Shds cl w vs ds->Shds cl w (vs.take n) (ds.take n)
 | _,_,0,_=>.nil
 | _,_,_+1,.nil=>.nil
 | _,_,n+1,.cons r t=>.cons r (Shds.take n t)
theorem Shds.drop:∀{vs:List V} {ds:List D} (n:Nat),Shds cl w vs ds->Shds cl w (vs.drop n) (ds.drop n)
 | _,_,0,s=>s
 | _,_,_+1,.nil=>.nil
 | _,_,n+1,.cons _ t=>Shds.drop n t
theorem Shds.flat(h:Shds cl w vs ds):∀n:Nat,Shds cl w (List.replicate n vs).flatten (List.replicate n ds).flatten
 | 0=>.nil
 | n+1=>by
  rw [ya8,ya8,yby,yby];exact Shds.append h (Shds.flat h n)
end
inductive Top(cl:Cf)(w:Wd):HO->D->Prop
 | lst {xs:List V} {ds:List D}:Shds cl w xs ds->Top cl w (.lst xs) (.lst ds)
 | dicK {kvs:List (Key×V)} {ds:List (D×D)}:ShdK cl w kvs ds->Top cl w (.dK kvs) (.dic ds)
 | dicX {o:HO} {ds:List (D×D)}:Exd cl w o ds->Top cl w o (.dic ((.bl true,.non)::ds))
theorem Top.up(f:Fut w w'):Top cl w o d->Top cl w' o d
 | .lst h=>.lst (h.up f)
 | .dicK h=>.dicK (h.up f)
 | .dicX x=>.dicX (x.up f)
noncomputable def zjq(cl:Cf)(w:Wd)(r:Root):Bool->V->D->Prop
 | false,v,d=>Shd cl w v d
 | true,v,d=>∃a o,v=.ref a/\w.ow a=some r/\w.H a=some o/\Top cl w o d
theorem zjq.keep(f:Fut w w')(k:∀a o,w.H a=some o->w.ow a=some r->w'.H a=some o/\w'.ow a=some r):∀{b:Bool} {v:V} {d:D},zjq cl w r b v d->zjq cl w' r b v d
 | false,_,_,h=>Shd.up f h
 | true,_,_,⟨a,o,e,h1,h2,t⟩=>⟨a,o,e,(k a o h2 h1).2,(k a o h2 h1).1,t.up f⟩
noncomputable def oDn:Option Int->D | none=>.non | some i=>.int i
def nkD(k:NK):D:=.tup [.int k.1,.tup (k.2.map oDn)]
inductive ShdN(cl:Cf)(w:Wd):List (NK×V)->List (D×D)->Prop
 | nil:ShdN cl w [] []
 | cons {k:NK} {v:V} {d:D} {m:List (NK×V)} {ds:List (D×D)}:Shd cl w v d->ShdN cl w m ds->ShdN cl w ((k,v)::m) ((nkD k,d)::ds)
theorem ShdN.up(f:Fut w w'):∀{m:List (NK×V)} {ds:List (D×D)},ShdN cl w m ds->ShdN cl w' m ds
 | _,_,.nil=>.nil
 | _,_,.cons r t=>.cons (r.up f) (ShdN.up f t)
noncomputable def zmm(w:Wd)(kb:Addr)(k:NK):Prop:=∃b,(w.H kb=some (.tup [.int k.1,.ref b])/\w.ow kb=none)/\w.H b=some (.tup (k.2.map oV))/\w.ow b=none
def zmm.up(f:Fut w w')(h:zmm w kb k):zmm w' kb k:=by
 obtain ⟨b,h1,h2⟩:=h;exact ⟨b,f.keep _ _ h1.1 h1.2,f.keep _ _ h2.1 h2.2⟩
def zmm.at(h:zmm w kb k):zis w.H kb k:=by
 obtain ⟨b,h1,h2⟩:=h;exact ⟨b,h1.1,h2.1⟩
noncomputable def zjt(w:Wd):List (NK×Addr×Value)->List (NK×V)->Prop:=Paired fun (x:NK×Addr×Value) (p:NK×V)=>x.1=p.1/\zmm w x.2.1 x.1/\zbr p.2 x.2.2
theorem zjt.up(f:Fut w w'):∀{xs:List (NK×Addr×Value)} {m:List (NK×V)},zjt w xs m->zjt w' xs m
 | _,_,.nil=>.nil
 | _,_,.cons h t=>.cons ⟨h.1,h.2.1.up f,h.2.2⟩ (zjt.up f t)
theorem zjt.ents:∀{xs:List (NK×Addr×Value)} {m:List (NK×V)},zjt w xs m->znZ w.H xs m
 | _,_,.nil=>.nil
 | _,_,.cons h t=>.cons ⟨h.1,h.2.1.at,h.2.2⟩ (zjt.ents t)
theorem zjt.snoc(h:x.1=p.1/\zmm w x.2.1 x.1/\zbr p.2 x.2.2):∀{xs:List (NK×Addr×Value)} {m:List (NK×V)},zjt w xs m->zjt w (xs++[x]) (m++[p])
 | _,_,.nil=>.cons h .nil
 | _,_,.cons h' t=>.cons h' (zjt.snoc h t)
theorem ShdN.snoc(h:Shd cl w v d):∀{m:List (NK×V)} {ds:List (D×D)},ShdN cl w m ds->ShdN cl w (m++[(k,v)]) (ds++[(nkD k,d)])
 | _,_,.nil=>.cons h .nil
 | _,_,.cons r t=>.cons r (ShdN.snoc h t)
noncomputable def zzN(cl:Cf)(w:Wd)(r:Root)(v:V)(d:D):Prop:=∃a xs m ds,v=.ref a/\w.ow a=some r/\w.H a=some (.ext (DN cl.P cl.wo a xs))/\zjt w xs m/\ShdN cl w m ds/\d=.dic ds
noncomputable def zit(cl:Cf)(w:Wd)(r:Root)(own:Bool)(v:V)(d:D):Prop:=(own=false/\Shd cl w v d)\/(own=true/\zzN cl w r v d)
def zit.keep(f:Fut w w')(k:∀a o,w.H a=some o->w.ow a=some r->w'.H a=some o/\w'.ow a=some r)(h:zit cl w r b v d):zit cl w' r b v d:=by
 rcases h with ⟨e,h⟩ | ⟨e,a,xs,m,ds,e1,e2,e3,e4,e5,e6⟩
 ·exact .inl ⟨e,h.up f⟩
 ·exact .inr ⟨e,a,xs,m,ds,e1,(k a _ e3 e2).2,(k a _ e3 e2).1,e4.up f,e5.up f,e6⟩
structure Ob where
 cls:Str
 fs:List (Str×Bool×D)
noncomputable abbrev Sto:=List Ob
noncomputable def zdv(cl:Cf)(w:Wd)(n:Nat):List (Str×V)->List (Str×Bool×D)->Prop:=Paired fun p q=>p.1=q.1/\zit cl w (.fld n q.1) q.2.1 p.2 q.2.2
noncomputable def ztC(cl:Cf)(w:Wd)(n:Nat)(a:Addr)(ob:Ob):Prop:=w.ow a=some (.obj n)/\∃dx fs,w.H a=some (.ins (cl ob.cls) dx fs)/\zdv cl w n fs ob.fs
noncomputable def zss(n:Nat):Option Root->Prop | some (.obj m)=>m=n | some (.fld m _)=>m=n | _=>False
theorem zdv.keep(f:Fut w w')(k:∀a o,w.H a=some o->zss n (w.ow a)->w'.H a=some o/\w'.ow a=w.ow a):∀{fs:List (Str×V)} {gs:List (Str×Bool×D)},zdv cl w n fs gs->zdv cl w' n fs gs
 | _,_,.nil=>.nil
 | _,_,.cons ⟨e,h⟩ t=>.cons ⟨e,h.keep f fun a o ha hr=>by
   have:=k a o ha (by rw [hr];rfl)
   exact ⟨this.1,this.2.trans hr⟩⟩ (zdv.keep f k t)
theorem ztC.keep(f:Fut w w')(k:∀a o,w.H a=some o->zss n (w.ow a)->w'.H a=some o/\w'.ow a=w.ow a)(h:ztC cl w n a ob):ztC cl w' n a ob:=by
 obtain ⟨h1,dx,fs,h2,h3⟩:=h;have:=k a _ h2 (by rw [h1];rfl);exact ⟨this.2.trans h1,dx,fs,this.1,h3.keep f k⟩
structure Base where
 Fr:Hp
 fw:Ow
structure World'(cl:Cf)(B:Base)(w:Wd)(S:Sto):Prop where
 fr:∀a o,B.Fr a=some o->w.H a=some o/\w.ow a=B.fw a
 own:∀a r,w.ow a=some r->r=.far\/B.Fr a=none
 len:w.mu.length=S.length
 obj:∀(n:Nat) (ob:Ob),S[n]?=some ob->∃a,w.mu[n]?=some a/\ztC cl w n a ob
noncomputable abbrev Env:=List (Option (Bool×D))
structure Rel(cl:Cf)(B:Base)(σ:St)(w:Wd)(ρ:Env)(S:Sto):Prop where
 wd:World' cl B w S
 len:σ.length=ρ.length
 slots:∀(i:Nat) (o:Bool) (d:D),ρ[i]?=some (some (o,d))->∃v,σ[i]?=some (some v)/\zjq cl w (.slot i) o v d
structure Grow(w w':Wd):Prop where
 keep:∀a o,w.H a=some o->w'.H a=some o/\w'.ow a=w.ow a
 new:∀a r,w'.ow a=some r->w.H a=none->w.ow a=some r\/r=.far
 mu:w'.mu=w.mu
def Grow.refl(w:Wd):Grow w w:=⟨fun _ _ h=>⟨h,rfl⟩,fun _ _ h _=>.inl h,rfl⟩
def Grow.fut(g:Grow w w'):Fut w w':=⟨fun a o h k=>⟨(g.keep a o h).1,(g.keep a o h).2.trans k⟩,fun n a h=>by rw [g.mu];exact h⟩
def World'.grow(W:World' cl B w S)(g:Grow w w'):World' cl B w' S where
 fr:=fun a o h=>by
  obtain ⟨h1,h2⟩:=W.fr a o h;exact ⟨(g.keep a o h1).1,(g.keep a o h1).2.trans h2⟩
 own:=fun a r h=>by
  cases e:w.H a with
  | none=>exact (g.new a r h e).elim (W.own a r) .inl
  | some o=>exact W.own a r (by rw [<-(g.keep a o e).2];exact h)
 len:=by rw [g.mu];exact W.len
 obj:=fun n ob h=>by
  obtain ⟨a,e,x⟩:=W.obj n ob h;exact ⟨a,by rw [g.mu];exact e,x.keep g.fut fun a o ha _=>g.keep a o ha⟩
theorem Rel.grow(R:Rel cl B σ w ρ S)(g:Grow w w'):Rel cl B σ w' ρ S where
 wd:=R.wd.grow g
 len:=R.len
 slots:=fun i o d h=>by
  obtain ⟨v,e,x⟩:=R.slots i o d h;exact ⟨v,e,x.keep g.fut fun a o ha hr=>⟨(g.keep a o ha).1,(g.keep a o ha).2.trans hr⟩⟩
def Wd.add(w:Wd)(p:Addr)(o:HO):Wd:=⟨upd w.H p o,fun a=>if a=p then none else w.ow a,w.mu⟩
def zau(h:w.H p=none)(o:HO):Grow w (w.add p o) where
 keep:=fun a u ha=>by
  have n:a≠p:=zav ha h;refine ⟨?_,?_⟩
  ·show upd w.H p o a=_;rw [zao n];exact ha
  ·show (if a=p then none else w.ow a)=_;rw [if_neg n]
 new:=fun a r h1 h2=>by
  have h1':(if a=p then none else w.ow a)=some r:=h1;split at h1'
  ·cases h1'
  ·exact .inl h1'
 mu:=rfl
def zhN{w:Wd}:(w.add p o).ow p=none:=if_pos rfl
def zmf{w:Wd}:(w.add p o).H p=some o:=zay
def Shd.newT(h:w.H p=none)(r:Shds cl w xs ds):Shd cl (w.add p (.tup xs)) (.ref p) (.tup ds):=.tup zmf zhN (r.up (zau h _).fut)
def Shd.newL(h:w.H p=none)(r:Shds cl w xs ds):Shd cl (w.add p (.lst xs)) (.ref p) (.lst ds):=.lst zmf zhN (r.up (zau h _).fut)
def Shd.newO(h:w.H p=none)(r:Top cl w o d):Shd cl (w.add p o) (.ref p) d:=by
 have g:=(zau h o).fut
 cases r with
 | lst r=>exact .lst zmf zhN (r.up g)
 | dicK r=>exact .dicK zmf zhN (r.up g)
 | dicX x=>exact .dicX zmf zhN (x.up g)
inductive Out(α:Type) where
 | ok (a:α) (S:Sto) | exc (c:Str) (S:Sto) | bad
noncomputable abbrev Fe:=Env->Sto->Out D
inductive Fo where
 | nx (ρ:Env) (S:Sto) | rt (d:D) (S:Sto) | bk (ρ:Env) (S:Sto) | ct (ρ:Env) (S:Sto) | ex (c:Str) (ρ:Env) (S:Sto) | bad
noncomputable abbrev Fs:=Env->Sto->Fo
noncomputable def tE(cl:Cf)(E:St->XK)(f:Fe):TE:=fun σ H Q=>∃B w ρ S,w.H=H/\Rel cl B σ w ρ S/\match f ρ S with
 | .ok d S'=>∀v w',Rel cl B σ w' ρ S'->Fut w w'->Shd cl w' v d->Q v w'.H
 | .exc c S'=>∀w',Rel cl B σ w' ρ S'->Fut w w'->E σ (.ref (cl c)) none w'.H
 | .bad=>False
noncomputable def tN(cl:Cf)(E:St->XK)(f:Fe):TE:=fun σ H Q=>∃B w ρ S,w.H=H/\Rel cl B σ w ρ S/\match f ρ S with
 | .ok d S'=>∀p o w',Rel cl B σ w' ρ S'->Fut w w'->w'.H p=none->Top cl w' o d->Q (.ref p) (upd w'.H p o)
 | .exc c S'=>∀w',Rel cl B σ w' ρ S'->Fut w w'->E σ (.ref (cl c)) none w'.H
 | .bad=>False
noncomputable def Hd(cl:Cf)(σ:St)(ρ:Env)(w:Wd)(v:V)(d:D):Prop:=Shd cl w v d\/∃i:Nat,ρ[i]?=some (some (true,d))/\σ[i]?=some (some v)
noncomputable def tH(cl:Cf)(E:St->XK)(f:Fe):TE:=fun σ H Q=>∃B w ρ S,w.H=H/\Rel cl B σ w ρ S/\match f ρ S with
 | .ok d S'=>∀v w',Rel cl B σ w' ρ S'->Fut w w'->Hd cl σ ρ w' v d->Q v w'.H
 | .exc c S'=>∀w',Rel cl B σ w' ρ S'->Fut w w'->E σ (.ref (cl c)) none w'.H
 | .bad=>False
inductive TopV(cl:Cf)(w:Wd):V->D->Prop
 | sh {v:V} {d:D}:Shd cl w v d->TopV cl w v d
 | ow {a:Addr} {o:HO} {d:D}:w.H a=some o->Top cl w o d->TopV cl w (.ref a) d
def Hd.top(h:Hd cl σ ρ w v d)(R:Rel cl B σ w ρ S):TopV cl w v d:=by
 rcases h with h | ⟨i,h1,h2⟩
 ·exact .sh h
 ·obtain ⟨v',e,a,o,rfl,_,h3,t⟩:=R.slots i true d h1;rw [h2] at e;cases e;exact .ow h3 t
theorem Hd.up(f:Fut w w')(h:Hd cl σ ρ w v d):Hd cl σ ρ w' v d:=by
 rcases h with h | h
 ·exact .inl (h.up f)
 ·exact .inr h
def PE.imp(h:PE X e t)(i:∀σ H Q,t' σ H Q->t σ H Q):PE X e t':=fun pins s σ H Q I q=>h pins s σ H Q I (i _ _ _ q)
def zum(h:tE cl E f σ H Q):tN cl E f σ H Q:=by
 obtain ⟨B,w,ρ,S,e,R,h⟩:=h;refine ⟨B,w,ρ,S,e,R,?_⟩
 cases hf:f ρ S with
 | ok d S' =>
  rw [hf] at h;intro p o w' R' F' hp t;exact h (.ref p) (w'.add p o) (R'.grow (zau hp o)) (F'.trans (zau hp o).fut) (Shd.newO hp t)
 | exc c S'=>rwa [hf] at h
 | bad=>rwa [hf] at h
def zul(h:tH cl E f σ H Q):tE cl E f σ H Q:=by
 obtain ⟨B,w,ρ,S,e,R,h⟩:=h;refine ⟨B,w,ρ,S,e,R,?_⟩
 cases hf:f ρ S with
 | ok d S' =>
  rw [hf] at h;intro v w' R' F' t;exact h v w' R' F' (.inl t)
 | exc c S'=>rwa [hf] at h
 | bad=>rwa [hf] at h
noncomputable def Out.bind{α β:Type}(o:Out α)(k:α->Sto->Out β):Out β:=match o with | .ok a S=>k a S | .exc c S=>.exc c S | .bad=>.bad
noncomputable def Out.of{α:Type}(o:Option α)(S:Sto):Out α:=match o with | some a=>.ok a S | none=>.bad
@[simp] def Out.bind_ok{α β:Type}(a:α)(S:Sto)(k:α->Sto->Out β):(Out.ok a S).bind k=k a S:=rfl
@[simp] def Out.bind_exc{α β:Type}(c:Str)(S:Sto)(k:α->Sto->Out β):(Out.exc c S:Out α).bind k=.exc c S:=rfl
@[simp] def Out.bind_bad{α β:Type}(k:α->Sto->Out β):(Out.bad:Out α).bind k=.bad:=rfl
@[simp] def Out.of_some{α:Type}(a:α)(S:Sto):Out.of (some a) S=.ok a S:=rfl
noncomputable def zad(i:Nat):Fe:=fun ρ S=>match ρ[i]? with | some (some (false,d))=>.ok d S | _=>.bad
noncomputable def zak(i:Nat):Fe:=fun ρ S=>match ρ[i]? with | some (some (_,d))=>.ok d S | _=>.bad
noncomputable def zae(d:D):Fe:=fun _ S=>.ok d S
def eUn(g:D->Option D)(f:Fe):Fe:=fun ρ S=>(f ρ S).bind fun a S1=>Out.of (g a) S1
def zaf(g:D->D->Option D)(f h:Fe):Fe:=fun ρ S=>(f ρ S).bind fun a S1=>(h ρ S1).bind fun b S2=>Out.of (g a b) S2
noncomputable def isB:D->Option Bool | .bl b=>some b | _=>none
def eIf(c f h:Fe):Fe:=fun ρ S=>(c ρ S).bind fun d S1=>match isB d with | some true=>f ρ S1 | some false=>h ρ S1 | none=>.bad
def zgr(f h:Fe):Fe:=fun ρ S=>(f ρ S).bind fun d S1=>match isB d with | some true=>h ρ S1 | some false=>.ok (.bl false) S1 | none=>.bad
def eOr(f h:Fe):Fe:=fun ρ S=>(f ρ S).bind fun d S1=>match isB d with | some true=>.ok (.bl true) S1 | some false=>h ρ S1 | none=>.bad
noncomputable def zet:D->Option D | .bl b=>some (.bl (!b)) | _=>none
def zal:List Fe->Env->Sto->Out (List D)
 | [],_,S=>.ok [] S
 | f::fs,ρ,S=>(f ρ S).bind fun d S1=>(zal fs ρ S1).bind fun ds S2=>.ok (d::ds) S2
noncomputable def zaH(n:Nat):Bool:=decide (n<=100000)
def zdd(fs:List Fe):Fe:=fun ρ S=>(zal fs ρ S).bind fun ds S1=>if zaH ds.length then .ok (.tup ds) S1 else .bad
def zfn(fs:List Fe):Fe:=fun ρ S=>(zal fs ρ S).bind fun ds S1=>if zaH ds.length then .ok (.lst ds) S1 else .bad
def zas(g:List D->Option D)(fs:List Fe):Fe:=fun ρ S=>(zal fs ρ S).bind fun ds S1=>Out.of (g ds) S1
def zaT(h:zaH n=true):n<=sizeLine:=yak (yaq h) (by decide)
noncomputable def zbq:Expr->Bool | .Starred _ _=>false | _=>true
def zaN(h:zbq e=true):starEach (e::es) env=(false,eval e env)::starEach es env:=by
 cases e<;>first | rfl | cases h
theorem zbw:∀{es:List Expr},es.all zbq=true->(backTo pos (starEach es env)).any (·.1)=false
 | [],_=>rfl
 | e::es,h=>by
  rw [ybJ,yac] at h;rw [zaN h.1];show (false||(backTo pos (starEach es env)).any (·.1))=false;rw [zbw h.2];rfl
theorem zg9:∀{es:List Expr},es.all zbq=true->(backTo pos (starEach es env)).all (fun x=>!x.1)=true
 | [],_=>rfl
 | e::es,h=>by
  rw [ybJ,yac] at h;rw [zaN h.1];show (true&&(backTo pos (starEach es env)).all (fun x=>!x.1))=true;rw [zg9 h.2];rfl
def zfi(h:es.all zbq=true)(hl:es.length<30):((backTo pos (starEach es env)).all (fun x=>!x.1)&&(backToKw pos (keywordEach [] env)).all (fun x=>x.1.isSome)
   && decide (es.length+([]:List Keyword).length+(if ([]:List Keyword).isEmpty then 0 else 1)<30))=true:=by
 rw [zg9 h];show (true&&true&&decide (es.length+0+0<30))=true;simpa using hl
noncomputable def Hds(cl:Cf)(σ:St)(ρ:Env)(w:Wd):List V->List D->Prop:=Paired (Hd cl σ ρ w)
noncomputable def zmg(cl:Cf)(w:Wd):List V->List D->Prop:=Paired (TopV cl w)
theorem Hds.top(R:Rel cl B σ w ρ S):∀{vs:List V} {ds:List D},Hds cl σ ρ w vs ds->zmg cl w vs ds
 | _,_,.nil=>.nil
 | _,_,.cons h t=>.cons (h.top R) (Hds.top R t)
noncomputable def tAs(cl:Cf)(E:St->XK)(fs:List Fe):TA:=fun σ H Q=>∃B w ρ S,w.H=H/\Rel cl B σ w ρ S/\match zal fs ρ S with
 | .ok ds S'=>∀vs w',Rel cl B σ w' ρ S'->Fut w w'->Shds cl w' vs ds->Q vs w'.H
 | .exc c S'=>∀w',Rel cl B σ w' ρ S'->Fut w w'->E σ (.ref (cl c)) none w'.H
 | .bad=>False
noncomputable def tHs(cl:Cf)(E:St->XK)(fs:List Fe):TA:=fun σ H Q=>∃B w ρ S,w.H=H/\Rel cl B σ w ρ S/\match zal fs ρ S with
 | .ok ds S'=>∀vs w',Rel cl B σ w' ρ S'->Fut w w'->Hds cl σ ρ w' vs ds->Q vs w'.H
 | .exc c S'=>∀w',Rel cl B σ w' ρ S'->Fut w w'->E σ (.ref (cl c)) none w'.H
 | .bad=>False
def PA.imp(h:PA X es t)(i:∀σ H Q,t' σ H Q->t σ H Q):PA X es t':=fun pos pins s σ H Q I q=>h pos pins s σ H Q I (i _ _ _ q)
def PT.imp(h:PT X e t)(i:∀σ H Q,t' σ H Q->t σ H Q):PT X e t':=fun pins s σ H Q I q=>h pins s σ H Q I (i _ _ _ q)
section
variable{X:Cx}{cl:Cf}{E:St->XK}{a b c e:Expr}{f h g:Fe}{pos:Pos}
def zrE(hN:X.N[i]?=some x)(hv:Vis X.env.scope x)(hd:(x == ("__debug__":Str))=false)(hcd:(x == ("__classdict__":Str))=false):PE X (.Name x pos) (tE cl E (zad i)):=by
 refine PE.imp (zcl hN hv hd hcd) ?_;rintro σ H Q ⟨B,w,ρ,S,rfl,R,q⟩;unfold zad at q;split at q
 ·rename_i o d S' hm;split at hm
  ·rename_i d' he;cases hm;obtain ⟨v,e,r⟩:=R.slots i false d he;exact ⟨v,e,q v w R (Fut.refl _) r⟩
  ·cases hm
 ·rename_i hm;split at hm<;>cases hm
 ·exact q.elim
def zrM(hN:X.N[i]?=some x)(hv:Vis X.env.scope x)(hd:(x == ("__debug__":Str))=false)(hcd:(x == ("__classdict__":Str))=false):PE X (.Name x pos) (tH cl E (zak i)):=by
 refine PE.imp (zcl hN hv hd hcd) ?_;rintro σ H Q ⟨B,w,ρ,S,rfl,R,q⟩;unfold zak at q;split at q
 ·rename_i o d S' hm;split at hm
  ·rename_i b d' he;cases hm;obtain ⟨v,e,r⟩:=R.slots i b d he;refine ⟨v,e,q v w R (Fut.refl _) ?_⟩
   cases b with
   | false=>exact .inl r
   | true=>exact .inr ⟨i,he,e⟩
  ·cases hm
 ·rename_i hm;split at hm<;>cases hm
 ·exact q.elim
def zkF(h:PE X e (tC v))(hd:∀w,Shd cl w v d):PE X e (tE cl E (zae d)):=by
 refine PE.imp h ?_;rintro σ H Q ⟨B,w,ρ,S,rfl,R,q⟩;exact q v w R (Fut.refl _) (hd w)
def zkG(h:PE X e (tE cl E f)):PE X e (tH cl E f):=PE.imp h fun _ _ _=>zul
def zcA(h:PE X e (tN cl E f)):PE X e (tE cl E f):=PE.imp h fun _ _ _=>zum
noncomputable def OpD(X:Cx)(cl:Cf)(op:Value->Value->Sem Value)(g:D->D->Option D):Prop:=OpR X op fun x y H Q=>∃w d e r,w.H=H/\TopV cl w x d/\TopV cl w y e/\g d e=some r/\∀v w',Grow w w'->Shd cl w' v r->Q v w'.H
noncomputable def UnD(X:Cx)(cl:Cf)(op:Value->Sem Value)(g:D->Option D):Prop:=UnR X op fun x H Q=>∃w d r,w.H=H/\TopV cl w x d/\g d=some r/\∀v w',Grow w w'->Shd cl w' v r->Q v w'.H
noncomputable def zka(X:Cx)(cl:Cf)(fv:Value)(g:List D->Option D):Prop:=zdw X fv fun xs H Q=>∃w ds r,w.H=H/\zmg cl w xs ds/\g ds=some r/\∀v w',Grow w w'->Shd cl w' v r->Q v w'.H
noncomputable def ztD(X:Cx)(cl:Cf)(fv:Value)(g:List D->Option D):Prop:=zdw X fv fun xs H Q=>∃w ds r,w.H=H/\zmg cl w xs ds/\g ds=some r/\∀p o w',Grow w w'->w'.H p=none->Top cl w' o r->Q (.ref p) (upd w'.H p o)
noncomputable def IxD(X:Cx)(cl:Cf)(g:D->D->Option D):Prop:=IxR X fun x y H Q=>∃w d e r,w.H=H/\TopV cl w x d/\TopV cl w y e/\g d e=some r/\∀v w',Grow w w'->Shd cl w' v r->Q v w'.H
def two(hr:∀x y H Q,(∃w d e r,w.H=H/\TopV cl w x d/\TopV cl w y e/\gg d e=some r/\∀v w',Grow w w'->Shd cl w' v r->Q v w'.H)->r2 x y H Q)(σ:St)(H:Hp)(Q:VK)(q:tE cl E (zaf gg f h) σ H Q):tOp r2 (tH cl E f) (tH cl E h) σ H Q:=by
 obtain ⟨B,w,ρ,S,rfl,R,q⟩:=q;refine ⟨B,w,ρ,S,rfl,R,?_⟩;unfold zaf at q
 cases hf:f ρ S with
 | bad=>rwa [hf] at q
 | exc c S1=>rwa [hf] at q
 | ok d S1 =>
  rw [hf] at q;intro v w1 R1 F1 h1;refine ⟨B,w1,ρ,S1,rfl,R1,?_⟩;dsimp only [Out.bind] at q
  cases hh:h ρ S1 with
  | bad=>rwa [hh] at q
  | exc c S2=>rw [hh] at q;exact fun w2 R2 F2=>q w2 R2 (F1.trans F2)
  | ok e S2 =>
   rw [hh] at q;intro y w2 R2 F2 h2;dsimp only at q
   cases hg:gg d e with
   | none=>rw [hg] at q;exact q.elim
   | some r =>
    rw [hg] at q;exact hr _ _ _ _ ⟨w2,d,e,r,rfl,(h1.up F2).top R2,h2.top R2,hg,fun v' w' gr sh=>q v' w' (R2.grow gr) (F1.trans (F2.trans gr.fut)) sh⟩
def zn9(ho:OpD X cl (binaryOp op) gg)(ha:PE X a (tH cl E f))(hb:PE X b (tH cl E h)):PE X (.BinOp a op b pos) (tE cl E (zaf gg f h)) :=
 PE.imp (zsa ho ha hb) (two fun _ _ _ _ z=>z)
def zuD(ho:IxD X cl gg)(ha:PE X a (tH cl E f))(hb:PE X b (tH cl E h))(hs:zgD b):PE X (.Subscript a b pos) (tE cl E (zaf gg f h)) :=
 PE.imp (zse ho ha hb hs) (two fun _ _ _ _ z=>z)
def zrL(ho:OpD X cl (compareOp op) gg)(ha:PE X a (tH cl E f))(hb:PE X b (tH cl E h))(hm:behindInMarks op b=false):PE X (.Compare a [op] [b] pos) (tE cl E (zaf gg f h)) :=
 PE.imp (zk0 ho ha hb hm) (two fun _ _ _ _ z=>z)
def zuz(ho:UnD X cl (unaryOp op) gg)(ha:PE X a (tH cl E f)):PE X (.UnaryOp op a pos) (tE cl E (eUn gg f)):=by
 refine PE.imp (zuM ho ha) ?_;rintro σ H Q ⟨B,w,ρ,S,rfl,R,q⟩;refine ⟨B,w,ρ,S,rfl,R,?_⟩;unfold eUn at q
 cases hf:f ρ S with
 | bad=>rwa [hf] at q
 | exc c S1=>rwa [hf] at q
 | ok d S1 =>
  rw [hf] at q;intro v w1 R1 F1 h1;dsimp only [Out.bind] at q
  cases hg:gg d with
  | none=>rw [hg] at q;exact q.elim
  | some r =>
   rw [hg] at q;exact ⟨w1,d,r,rfl,h1.top R1,hg,fun v' w' gr sh=>q v' w' (R1.grow gr) (F1.trans gr.fut) sh⟩
noncomputable def tTr(cl:Cf)(E:St->XK)(f:Fe):TT:=fun σ H Q=>∃B w ρ S,w.H=H/\Rel cl B σ w ρ S/\match f ρ S with
 | .ok d S'=>match isB d with
  | some b=>∀w',Rel cl B σ w' ρ S'->Fut w w'->Q b w'.H
  | none=>False
 | .exc c S'=>∀w',Rel cl B σ w' ρ S'->Fut w w'->E σ (.ref (cl c)) none w'.H
 | .bad=>False
def zdq{d:D}{b:Bool}(h:isB d=some b):d=.bl b:=by
 cases d<;>simp [isB] at h
 subst h;rfl
def zgU{w:Wd}{v:V}{b:Bool}(h:Shd cl w v (.bl b)):v=.bl b:=by cases h;rfl
def ziA(q:tTr cl E f σ H Q):tB (tE cl E f) σ H Q:=by
 obtain ⟨B,w,ρ,S,rfl,R,q⟩:=q;refine ⟨B,w,ρ,S,rfl,R,?_⟩
 cases hf:f ρ S with
 | bad=>rwa [hf] at q
 | exc c S1=>rwa [hf] at q
 | ok d S1 =>
  rw [hf] at q;intro v w1 R1 F1 h1;dsimp only at q
  cases hb:isB d with
  | none=>rw [hb] at q;exact q.elim
  | some b =>
   rw [hb] at q;rw [zdq hb] at h1;exact ⟨b,zgU h1,q w1 R1 F1⟩
def zbb(h:PE X e (tE cl E f))(he:∀whole,isTrue e X.env whole=(do let v ← whole;standAt e.pos;holding [v] (truthy v))):PT X e (tTr cl E f) :=
 PT.imp (zr2 h he) fun _ _ _ q=>ziA q
def zkt(hr:∀x y H Q,(∃w d e r,w.H=H/\TopV cl w x d/\TopV cl w y e/\gg d e=some r/\∀v w',Grow w w'->Shd cl w' v r->Q v w'.H)->r2 x y H Q)(q:tTr cl E (zaf gg f h) σ H Q):zoU (tOp r2 (tH cl E f) (tH cl E h)) σ H Q :=
 two hr σ H _ (ziA q)
def zro(ho:OpD X cl (compareOp op) gg)(ha:PE X a (tH cl E f))(hb:PE X b (tH cl E h))(hm:behindInMarks op b=false):PT X (.Compare a [op] [b] pos) (tTr cl E (zaf gg f h)) :=
 PT.imp (zkQ ho ha hb hm) fun _ _ _ q=>zkt (fun _ _ _ _ z=>z) q
def PW.imp(h:PW X e t)(i:∀σ H Q,t' σ H Q->t σ H Q):PW X e t':=fun whole pins s σ H Q I q=>h whole pins s σ H Q I (i _ _ _ q)
def zoT(q:tTr cl E (zgr f h) σ H Q):zwJ (tTr cl E f) (tTr cl E h) σ H Q:=by
 obtain ⟨B,w,ρ,S,rfl,R,q⟩:=q;refine ⟨B,w,ρ,S,rfl,R,?_⟩;unfold zgr at q
 cases hf:f ρ S with
 | bad=>rwa [hf] at q
 | exc c S1=>rwa [hf] at q
 | ok d S1 =>
  rw [hf] at q;dsimp only [Out.bind] at q ⊢
  cases hb:isB d with
  | none=>rw [hb] at q;exact q.elim
  | some b =>
   rw [hb] at q;intro w1 R1 F1
   cases b with
   | false=>exact znn (q w1 R1 F1)
   | true =>
    refine znm ⟨B,w1,ρ,S1,rfl,R1,?_⟩;dsimp only at q
    cases hh:h ρ S1 with
    | bad=>rwa [hh] at q
    | exc c S2=>rw [hh] at q;exact fun w2 R2 F2=>q w2 R2 (F1.trans F2)
    | ok e S2 =>
     rw [hh] at q;dsimp only at q ⊢
     cases hb2:isB e with
     | none=>rw [hb2] at q;exact q.elim
     | some b2=>rw [hb2] at q;exact fun w2 R2 F2=>q w2 R2 (F1.trans F2)
def zra(q:tTr cl E (eOr f h) σ H Q):tOr (tTr cl E f) (tTr cl E h) σ H Q:=by
 obtain ⟨B,w,ρ,S,rfl,R,q⟩:=q;refine ⟨B,w,ρ,S,rfl,R,?_⟩;unfold eOr at q
 cases hf:f ρ S with
 | bad=>rwa [hf] at q
 | exc c S1=>rwa [hf] at q
 | ok d S1 =>
  rw [hf] at q;dsimp only [Out.bind] at q ⊢
  cases hb:isB d with
  | none=>rw [hb] at q;exact q.elim
  | some b =>
   rw [hb] at q;intro w1 R1 F1
   cases b with
   | true=>exact znm (q w1 R1 F1)
   | false =>
    refine znn ⟨B,w1,ρ,S1,rfl,R1,?_⟩;dsimp only at q
    cases hh:h ρ S1 with
    | bad=>rwa [hh] at q
    | exc c S2=>rw [hh] at q;exact fun w2 R2 F2=>q w2 R2 (F1.trans F2)
    | ok e S2 =>
     rw [hh] at q;dsimp only at q ⊢
     cases hb2:isB e with
     | none=>rw [hb2] at q;exact q.elim
     | some b2=>rw [hb2] at q;exact fun w2 R2 F2=>q w2 R2 (F1.trans F2)
def zoS(q:tTr cl E (eUn zet f) σ H Q):zwH (tTr cl E f) σ H Q:=by
 obtain ⟨B,w,ρ,S,rfl,R,q⟩:=q;refine ⟨B,w,ρ,S,rfl,R,?_⟩;unfold eUn at q
 cases hf:f ρ S with
 | bad=>rwa [hf] at q
 | exc c S1=>rwa [hf] at q
 | ok d S1 =>
  rw [hf] at q;dsimp only [Out.bind] at q ⊢
  cases hb:isB d with
  | none =>
   have:zet d=none:=by cases d<;>simp [isB] at hb<;>rfl
   rw [this] at q;exact q.elim
  | some b =>
   rwa [zdq hb] at q
def zrm(ha:PT X a (tTr cl E f)):PT X (.UnaryOp .Not a pos) (tTr cl E (eUn zet f)):=PT.imp (zr3 ha) fun _ _ _ q=>zoS q
def zri{zbW:List Expr}(ha:PT X a (tTr cl E f))(hb:PW X (.BoolOp .And (b::zbW) pos) (tTr cl E h)):PW X (.BoolOp .And (a::b::zbW) pos) (tTr cl E (zgr f h)):=PW.imp (zrZ ha hb) fun _ _ _ q=>zoT q
def zus{zbW:List Expr}(ha:PT X a (tTr cl E f))(hb:PW X (.BoolOp .Or (b::zbW) pos) (tTr cl E h)):PW X (.BoolOp .Or (a::b::zbW) pos) (tTr cl E (eOr f h)):=PW.imp (zuJ ha hb) fun _ _ _ q=>zra q
def zrN{zbW:List Expr}(ha:PE X a (tE cl E f))(hb:PE X (.BoolOp .And (b::zbW) pos) (tE cl E h)):PE X (.BoolOp .And (a::b::zbW) pos) (tE cl E (zgr f h)):=by
 refine PE.imp (zsh ha hb) ?_;rintro σ H Q ⟨B,w,ρ,S,rfl,R,q⟩;refine ⟨B,w,ρ,S,rfl,R,?_⟩;unfold zgr at q
 cases hf:f ρ S with
 | bad=>rwa [hf] at q
 | exc c S1=>rwa [hf] at q
 | ok d S1 =>
  rw [hf] at q;intro v w1 R1 F1 h1;dsimp only [Out.bind] at q
  cases hb:isB d with
  | none=>rw [hb] at q;exact q.elim
  | some b =>
   rw [hb] at q;rw [zdq hb] at h1;refine ⟨b,zgU h1,?_⟩
   cases b with
   | false=>exact znn (q _ w1 R1 F1 (.bl false))
   | true =>
    refine znm ⟨B,w1,ρ,S1,rfl,R1,?_⟩;dsimp only at q
    cases hh:h ρ S1 with
    | bad=>rwa [hh] at q
    | exc c S2=>rw [hh] at q;exact fun w2 R2 F2=>q w2 R2 (F1.trans F2)
    | ok e S2=>rw [hh] at q;exact fun v w2 R2 F2=>q v w2 R2 (F1.trans F2)
def zuA{zbW:List Expr}(ha:PE X a (tE cl E f))(hb:PE X (.BoolOp .Or (b::zbW) pos) (tE cl E h)):PE X (.BoolOp .Or (a::b::zbW) pos) (tE cl E (eOr f h)):=by
 refine PE.imp (zuN ha hb) ?_;rintro σ H Q ⟨B,w,ρ,S,rfl,R,q⟩;refine ⟨B,w,ρ,S,rfl,R,?_⟩;unfold eOr at q
 cases hf:f ρ S with
 | bad=>rwa [hf] at q
 | exc c S1=>rwa [hf] at q
 | ok d S1 =>
  rw [hf] at q;intro v w1 R1 F1 h1;dsimp only [Out.bind] at q
  cases hb:isB d with
  | none=>rw [hb] at q;exact q.elim
  | some b =>
   rw [hb] at q;rw [zdq hb] at h1;refine ⟨b,zgU h1,?_⟩
   cases b with
   | true=>exact znm (q _ w1 R1 F1 (.bl true))
   | false =>
    refine znn ⟨B,w1,ρ,S1,rfl,R1,?_⟩;dsimp only at q
    cases hh:h ρ S1 with
    | bad=>rwa [hh] at q
    | exc c S2=>rw [hh] at q;exact fun w2 R2 F2=>q w2 R2 (F1.trans F2)
    | ok e S2=>rw [hh] at q;exact fun v w2 R2 F2=>q v w2 R2 (F1.trans F2)
def zrH(ha:PE X a (tE cl E f)):PE X (.UnaryOp .Not a pos) (tE cl E (eUn zet f)):=by
 refine PE.imp (zsc ha) ?_;rintro σ H Q ⟨B,w,ρ,S,rfl,R,q⟩;refine ⟨B,w,ρ,S,rfl,R,?_⟩;unfold eUn at q
 cases hf:f ρ S with
 | bad=>rwa [hf] at q
 | exc c S1=>rwa [hf] at q
 | ok d S1 =>
  rw [hf] at q;intro v w1 R1 F1 h1;dsimp only [Out.bind] at q
  cases hb:isB d with
  | none =>
   have:zet d=none:=by cases d<;>simp [isB] at hb<;>rfl
   rw [this] at q;exact q.elim
  | some b =>
   rw [zdq hb] at q h1;exact ⟨b,zgU h1,q _ w1 R1 F1 (.bl _)⟩
def zun(q:tE cl E (eIf g f h) σ H Q):tIf (tTr cl E g) (tE cl E f) (tE cl E h) σ H Q:=by
 obtain ⟨B,w,ρ,S,rfl,R,q⟩:=q;refine ⟨B,w,ρ,S,rfl,R,?_⟩;unfold eIf at q
 cases hg:g ρ S with
 | bad=>rwa [hg] at q
 | exc c S1=>rwa [hg] at q
 | ok d S1 =>
  rw [hg] at q;dsimp only [Out.bind] at q ⊢
  cases hb:isB d with
  | none=>rw [hb] at q;exact q.elim
  | some b =>
   rw [hb] at q;intro w1 R1 F1
   cases b with
   | true =>
    refine znm ⟨B,w1,ρ,S1,rfl,R1,?_⟩;dsimp only at q
    cases hh:f ρ S1 with
    | bad=>rwa [hh] at q
    | exc c S2=>rw [hh] at q;exact fun w2 R2 F2=>q w2 R2 (F1.trans F2)
    | ok e S2=>rw [hh] at q;exact fun v w2 R2 F2=>q v w2 R2 (F1.trans F2)
   | false =>
    refine znn ⟨B,w1,ρ,S1,rfl,R1,?_⟩;dsimp only at q
    cases hh:h ρ S1 with
    | bad=>rwa [hh] at q
    | exc c S2=>rw [hh] at q;exact fun w2 R2 F2=>q w2 R2 (F1.trans F2)
    | ok e S2=>rw [hh] at q;exact fun v w2 R2 F2=>q v w2 R2 (F1.trans F2)
def zuE(hc:PT X c (tTr cl E g))(ha:PE X a (tE cl E f))(hb:PE X b (tE cl E h)):PE X (.IfExp c a b pos) (tE cl E (eIf g f h)):=PE.imp (zmT hc ha hb) fun _ _ _ q=>zun q
def zeo:PA X [] (tAs cl E []):=by
 refine PA.imp zcF ?_;rintro σ H Q ⟨B,w,ρ,S,rfl,R,q⟩;exact q [] w R (Fut.refl _) .nil
def zcs(ha:PE X e (tE cl E f))(hr:PA X es (tAs cl E fs))(hs:starEach (e::es) X.env=(false,eval e X.env)::starEach es X.env):PA X (e::es) (tAs cl E (f::fs)):=by
 refine PA.imp (za7 ha hr hs) ?_;rintro σ H Q ⟨B,w,ρ,S,rfl,R,q⟩;refine ⟨B,w,ρ,S,rfl,R,?_⟩;unfold zal at q
 cases hf:f ρ S with
 | bad=>rwa [hf] at q
 | exc c S1=>rwa [hf] at q
 | ok d S1 =>
  rw [hf] at q;intro v w1 R1 F1 h1;refine ⟨B,w1,ρ,S1,rfl,R1,?_⟩;dsimp only [Out.bind] at q
  cases hh:zal fs ρ S1 with
  | bad=>rwa [hh] at q
  | exc c S2=>rw [hh] at q;exact fun w2 R2 F2=>q w2 R2 (F1.trans F2)
  | ok ds S2 =>
   rw [hh] at q;exact fun vs w2 R2 F2 h2=>q _ w2 R2 (F1.trans F2) (.cons (h1.up F2) h2)
def zkD:PA X [] (tHs cl E []):=by
 refine PA.imp zcF ?_;rintro σ H Q ⟨B,w,ρ,S,rfl,R,q⟩;exact q [] w R (Fut.refl _) .nil
def zhY(ha:PE X e (tH cl E f))(hr:PA X es (tHs cl E fs))(hs:starEach (e::es) X.env=(false,eval e X.env)::starEach es X.env):PA X (e::es) (tHs cl E (f::fs)):=by
 refine PA.imp (za7 ha hr hs) ?_;rintro σ H Q ⟨B,w,ρ,S,rfl,R,q⟩;refine ⟨B,w,ρ,S,rfl,R,?_⟩;unfold zal at q
 cases hf:f ρ S with
 | bad=>rwa [hf] at q
 | exc c S1=>rwa [hf] at q
 | ok d S1 =>
  rw [hf] at q;intro v w1 R1 F1 h1;refine ⟨B,w1,ρ,S1,rfl,R1,?_⟩;dsimp only [Out.bind] at q
  cases hh:zal fs ρ S1 with
  | bad=>rwa [hh] at q
  | exc c S2=>rw [hh] at q;exact fun w2 R2 F2=>q w2 R2 (F1.trans F2)
  | ok ds S2 =>
   rw [hh] at q;exact fun vs w2 R2 F2 h2=>q _ w2 R2 (F1.trans F2) (.cons (h1.up F2) h2)
def zrF(h:PA X es (tAs cl E fs)):PE X (.Tuple es k pos) (tE cl E (zdd fs)):=by
 refine PE.imp (zoi h) ?_;rintro σ H Q ⟨B,w,ρ,S,rfl,R,q⟩;refine ⟨B,w,ρ,S,rfl,R,?_⟩;unfold zdd at q
 cases hf:zal fs ρ S with
 | bad=>rwa [hf] at q
 | exc c S1=>rwa [hf] at q
 | ok ds S1 =>
  rw [hf] at q;intro vs w1 R1 F1 h1;dsimp only [Out.bind] at q
  cases hz:zaH ds.length with
  | false=>rw [hz,if_neg (by decide)] at q;exact q.elim
  | true =>
   rw [hz,if_pos rfl] at q;refine ⟨by rw [h1.length];exact zaT hz,fun p hp=>?_⟩;exact q _ (w1.add p (.tup vs)) (R1.grow (zau hp _)) (F1.trans (zau hp _).fut) (Shd.newT hp h1)
def zrJ(h:PA X es (tAs cl E fs)):PE X (.List es pos) (tN cl E (zfn fs)):=by
 refine PE.imp (zoj h) ?_;rintro σ H Q ⟨B,w,ρ,S,rfl,R,q⟩;refine ⟨B,w,ρ,S,rfl,R,?_⟩;unfold zfn at q
 cases hf:zal fs ρ S with
 | bad=>rwa [hf] at q
 | exc c S1=>rwa [hf] at q
 | ok ds S1 =>
  rw [hf] at q;intro vs w1 R1 F1 h1;dsimp only [Out.bind] at q
  cases hz:zaH ds.length with
  | false=>rw [hz,if_neg (by decide)] at q;exact q.elim
  | true =>
   rw [hz,if_pos rfl] at q;refine ⟨by rw [h1.length];exact zaT hz,fun p hp=>?_⟩;exact q _ (.lst vs) w1 R1 F1 hp (.lst h1)
def zrf(hr:∀xs H Q,(∃w ds r,w.H=H/\zmg cl w xs ds/\gg ds=some r/\∀v w',Grow w w'->Shd cl w' v r->Q v w'.H)->r xs H Q)(q:tE cl E (zas gg fs) σ H Q):tCB r (tHs cl E fs) σ H Q:=by
 obtain ⟨B,w,ρ,S,rfl,R,q⟩:=q;refine ⟨B,w,ρ,S,rfl,R,?_⟩;unfold zas at q
 cases hf:zal fs ρ S with
 | bad=>rwa [hf] at q
 | exc c S1=>rwa [hf] at q
 | ok ds S1 =>
  rw [hf] at q;intro vs w1 R1 F1 h1;dsimp only [Out.bind] at q
  cases hg:gg ds with
  | none=>rw [hg] at q;exact q.elim
  | some d =>
   rw [hg] at q;exact hr _ _ _ ⟨w1,ds,d,rfl,h1.top R1,hg,fun v w' gr sh=>q v w' (R1.grow gr) (F1.trans gr.fut) sh⟩
def zuq(hr:∀xs H Q,(∃w ds r,w.H=H/\zmg cl w xs ds/\gg ds=some r/\∀p o w',Grow w w'->w'.H p=none->Top cl w' o r->Q (.ref p) (upd w'.H p o))->r xs H Q)(q:tN cl E (zas gg fs) σ H Q):tCB r (tHs cl E fs) σ H Q:=by
 obtain ⟨B,w,ρ,S,rfl,R,q⟩:=q;refine ⟨B,w,ρ,S,rfl,R,?_⟩;unfold zas at q
 cases hf:zal fs ρ S with
 | bad=>rwa [hf] at q
 | exc c S1=>rwa [hf] at q
 | ok ds S1 =>
  rw [hf] at q;intro vs w1 R1 F1 h1;dsimp only [Out.bind] at q
  cases hg:gg ds with
  | none=>rw [hg] at q;exact q.elim
  | some d =>
   rw [hg] at q;exact hr _ _ _ ⟨w1,ds,d,rfl,h1.top R1,hg,fun p o w' gr hp t=>q p o w' (R1.grow gr) (F1.trans gr.fut) hp t⟩
end
noncomputable def Root.out:Option Root->Option Root | some (.slot _)=>some .far | o=>o
def Root.out_none:Root.out o=none↔o=none:=by
 cases o with
 | none=>exact ⟨fun h=>h,fun h=>h⟩
 | some r=>cases r<;>simp [Root.out]
noncomputable def zfb:Option Root->Bool | some (.fld _ _)=>true | some (.obj _)=>true | _=>false
def Wd.inn(w:Wd):Wd:=⟨w.H,fun a=>Root.out (w.ow a),w.mu⟩
def Wd.base(w:Wd):Base:=⟨fun a=>if zfb (w.ow a)=true then none else w.H a,fun a=>Root.out (w.ow a)⟩
def Wd.back(w w':Wd):Wd:=⟨w'.H,fun a=>if (w.base.Fr a).isSome=true then w.ow a else Root.out (w'.ow a),w'.mu⟩
def zcu(w:Wd):Fut w w.inn:=⟨fun a o h k=>⟨h,by show Root.out (w.ow a)=none;rw [k];rfl⟩,fun _ _ h=>h⟩
def zhK{w:Wd}(h:w.H a=some o)(k:zfb (w.ow a)=false):w.base.Fr a=some o:=by
 show (if zfb (w.ow a)=true then none else w.H a)=_;rw [k,if_neg (by decide)];exact h
def zpN{w:Wd}(h:w.base.Fr a=some o):w.H a=some o/\zfb (w.ow a)=false:=by
 have h':(if zfb (w.ow a)=true then none else w.H a)=some o:=h;split at h'
 ·cases h'
 ·rename_i z;exact ⟨h',by simpa using z⟩
section
variable{cl:Cf}{B:Base}{σ:St}{w w':Wd}{ρ:Env}{S S':Sto}
def World'.enter(W:World' cl B w S):World' cl w.base w.inn S where
 fr:=fun a o h=>⟨(zpN h).1,rfl⟩
 own:=fun a r h=>by
  have h':Root.out (w.ow a)=some r:=h
  cases e:w.ow a with
  | none=>rw [e] at h';cases h'
  | some q =>
   cases q with
   | slot i=>rw [e] at h';cases h';exact .inl rfl
   | far=>rw [e] at h';cases h';exact .inl rfl
   | fld n f=>exact .inr (by show (if zfb (w.ow a)=true then none else w.H a)=none;rw [e];rfl)
   | obj n=>exact .inr (by show (if zfb (w.ow a)=true then none else w.H a)=none;rw [e];rfl)
 len:=W.len
 obj:=fun n ob h=>by
  obtain ⟨a,e,x⟩:=W.obj n ob h;refine ⟨a,e,x.keep (zcu w) fun a o ha hn=>⟨ha,?_⟩⟩;show Root.out (w.ow a)=w.ow a
  cases e:w.ow a with
  | none=>rfl
  | some q=>cases q with
   | slot i=>rw [e] at hn;exact hn.elim
   | _=>rfl
def zdQ(W:World' cl B w S)(h:B.Fr a=some o):w.base.Fr a=some o:=by
 refine zhK (W.fr a o h).1 ?_
 cases e:w.ow a with
 | none=>rfl
 | some q =>
  rcases W.own a q e with rfl | z
  ·rfl
  ·rw [h] at z;cases z
def zds(W':World' cl w.base w' S'):Fut w' (w.back w') where
 keep:=fun a o h k=>by
  refine ⟨h,?_⟩;show (if (w.base.Fr a).isSome=true then w.ow a else Root.out (w'.ow a))=none;split
  ·rename_i z;obtain ⟨u,hu⟩:=Option.isSome_iff_exists.mp z;have:=(W'.fr a u hu).2;rw [k] at this;exact Root.out_none.mp this.symm
  ·rw [k];rfl
 mu:=fun _ _ h=>h
def Rel.leave(R:Rel cl B σ w ρ S)(W':World' cl w.base w' S')(F:Fut w.inn w'):Rel cl B σ (w.back w') ρ S'/\Fut w (w.back w'):=by
 have fb:=zds W';have ff:Fut w (w.back w'):=(zcu w).trans (F.trans fb)
 have in_:∀a o,w.base.Fr a=some o->(w.back w').H a=some o/\(w.back w').ow a=w.ow a:=fun a o h=>by
  refine ⟨(W'.fr a o h).1,?_⟩;show (if (w.base.Fr a).isSome=true then w.ow a else _)=_;rw [h];rfl
 refine ⟨⟨⟨fun a o h=>?_,fun a r h=>?_,W'.len,fun n ob h=>?_⟩,R.len,fun i o d h=>?_⟩,ff⟩
 ·have:=in_ a o (zdQ R.wd h);exact ⟨this.1,this.2.trans (R.wd.fr a o h).2⟩
 ·cases hb:B.Fr a with
  | none=>exact .inr rfl
  | some o =>
   have:=(in_ a o (zdQ R.wd hb)).2;rw [h] at this
   rcases R.wd.own a r this.symm with z | z
   ·exact .inl z
   ·rw [hb] at z;cases z
 ·obtain ⟨a,e,x⟩:=W'.obj n ob h;refine ⟨a,e,x.keep fb fun a o ha hn=>⟨ha,?_⟩⟩;show (if (w.base.Fr a).isSome=true then w.ow a else Root.out (w'.ow a))=_
  cases e:w'.ow a with
  | none=>rw [e] at hn;exact hn.elim
  | some q =>
   rcases W'.own a q e with rfl | z
   ·rw [e] at hn;exact hn.elim
   ·rw [z]
    cases q with
    | slot i=>rw [e] at hn;exact hn.elim
    | _=>rfl
 ·obtain ⟨v,e,x⟩:=R.slots i o d h;refine ⟨v,e,x.keep ff fun a u ha hr=>?_⟩;have:=in_ a u (zhK ha (by rw [hr];rfl));exact ⟨this.1,this.2.trans hr⟩
noncomputable def Wd.del(w:Wd)(a:Addr):Wd:=⟨fun b=>if b=a then none else w.H b,w.ow,w.mu⟩
def zii(k:w.ow a≠none):Fut w (w.del a) where
 keep:=fun b o h e=>⟨by
  show (if b=a then none else w.H b)=_
  rw [if_neg (fun z=>k (by rw [<-z];exact e))];exact h,e⟩
 mu:=fun _ _ h=>h
def zkl(h:w.H a=some o):upd (w.del a).H a o=w.H:=by
 funext b
 by_cases e:b=a
 ·rw [e,zay,h]
 ·rw [zao e];show (if b=a then none else w.H b)=_;rw [if_neg e]
theorem Rel.del(R:Rel cl B σ w ρ S)(k:w.ow a=some .far)(hb:B.Fr a=none):Rel cl B σ (w.del a) ρ S:=by
 have fd:Fut w (w.del a):=zii (by rw [k];exact yaE _)
 have kp:∀b o,w.H b=some o->b≠a->(w.del a).H b=some o:=fun b o h n=>by
  show (if b=a then none else w.H b)=_;rw [if_neg n];exact h
 refine ⟨⟨fun b o h=>⟨kp b o (R.wd.fr b o h).1 (fun z=>by rw [z,hb] at h;cases h),(R.wd.fr b o h).2⟩,R.wd.own,R.wd.len,fun n ob h=>?_⟩,R.len,fun i o d h=>?_⟩
 ·obtain ⟨c,e,x⟩:=R.wd.obj n ob h;exact ⟨c,e,x.keep fd fun b o hb' hn=>⟨kp b o hb' (fun z=>by rw [z,k] at hn;exact hn.elim),rfl⟩⟩
 ·obtain ⟨v,e,x⟩:=R.slots i o d h;exact ⟨v,e,x.keep fd fun b o hb' hr=>⟨kp b o hb' (fun z=>by rw [z,k] at hr;cases hr),hr⟩⟩
end
noncomputable def zxY(cl:Cf)(w:Wd):Bool->V->D->Prop
 | false,v,d=>Shd cl w v d
 | true,v,d=>∃a o i,v=.ref a/\w.ow a=some (.slot i)/\w.H a=some o/\Top cl w o d
noncomputable def zgQ(cl:Cf)(n:Nat)(own:Bool)(G:List D->Sto->Out D):Sp:=fun vs H Q E=>vs.length=n/\∃B w ds S,w.H=H/\World' cl B w S/\Shds cl w vs ds/\match G ds S with
 | .ok d S'=>∀v w',World' cl B w' S'->Fut w w'->zxY cl w' own v d->Q v w'.H
 | .exc c S'=>∀w',World' cl B w' S'->Fut w w'->E (.ref (cl c)) none w'.H
 | .bad=>False
noncomputable def zdj(CX:CXT)(X:Cx)(E:St->XK):Prop:=∀(pins:Z3) (σ:St) (H:Hp) (s:Shared) (e:Value) (s':Shared),Inv X pins σ H s->CX X.stack H s (E σ) e s'->X.xe e s'
noncomputable def zgO(sp:Sp)(dvs:List V)(E:St->XK)(t:TA):TE:=fun σ H Q=>t σ H fun vs H1=>sp (vs++dvs) H1 Q (E σ)
section
variable{X:Cx}{CX:CXT}{k:Nat}{f C:Addr}{fd:FuncData}{ps:List Str}{sp:Sp}{dvs:List V}{ds:List Value}{E:St->XK}{x m:Str}{p pos apos:Pos}{e o:Expr}{es:List Expr}{ta:TE}{t:TA}
def zf6(F:FnOk X.prog X.w X.K X.mg X.base CX k f fd ps sp)(hr:Room k X.A)(hb:zce X.K fd ps ds)(hd:Vals dvs ds)(hx:zdj CX X E)
  (I:Inv X pins σ H s) (r:Vals vs us) (h:sp (vs++dvs) H Q (E σ)):wpAny (model X.prog X.w) X.A (call (.ref f) us) (EP X pins σ Q) X.xe s:=by
 have r2:Vals (vs++dvs) (us++ds):=r.append hd
 have hl:(us++ds).length=ps.length:=by rw [<-r2.length];exact F.len _ _ _ _ h
 refine wpAny_call (ycw (F.run X.A X.stack s H ⟨us,[]⟩ (us++ds) (vs++dvs) Q (E σ) hr I.env0 (hb s us I.kIn hl) r2 h) fun r s' hq=>?_)
 cases r with
 | error e=>exact hx pins σ H s e s' I hq
 | ok fl =>
  cases fl with
  | ret u=>exact I.after hq
  | next=>exact False.elim hq
  | brk=>exact False.elim hq
  | cont=>exact False.elim hq
def zmY(F:FnOk X.prog X.w X.K X.mg X.base CX k f fd ps sp)(hr:Room k X.A)(hg:Gl X x)(hm:X.mg x=some (.ref f))(hk:PySem.W.keepIn X.K (.ref f)=true)(hb:zce X.K fd ps ds)(hd:Vals dvs ds)(hx:zdj CX X E)
  (ha:PA X (e::es) t) (hdb:(x == ("__debug__":Str))=false) (he:starEach (e::es) X.env=(false,eval e X.env)::starEach es X.env) (hpl:(backTo pos (starEach es X.env)).any (·.1)=false) :
  PE X (.Call (.Name x p) (e::es) [] pos) (zgO sp dvs E t):=by
 intro pins s σ H Q I h;refine ybW (ze7 I hg hm ?_ hdb);refine ycY (h₀:=X.base) I.ok.mod.kin hk (thn (ha pos pins s σ H _ I h) fun us s1 ⟨vs,H1,I1,r,q⟩=>⟨I1.kIn,?_⟩) he hpl;exact zf6 F hr hb hd hx I1 r q
def zk1(F:FnOk X.prog X.w X.K X.mg X.base CX k f fd ps sp)(hr:Room k X.A)(hg:Gl X x)(hm:X.mg x=some (.ref f))(hk:PySem.W.keepIn X.K (.ref f)=true)(hb:zce X.K fd ps ds)(hd:Vals dvs ds)(hx:zdj CX X E)
  (hdb:(x == ("__debug__":Str))=false):PE X (.Call (.Name x p) [] [] pos) (zgO sp dvs E ztI):=by
 intro pins s σ H Q I h;refine ybW (ze7 I hg hm ?_ hdb);exact PySem.W.callWith_K0 I.kIn hk (zf6 (us:=[]) F hr hb hd hx I .nil h)
end
def eFn(G:List D->Sto->Out D)(fs:List Fe):Fe:=fun ρ S=>(zal fs ρ S).bind fun ds S1=>G ds S1
section
variable{cl:Cf}{E:St->XK}{fs:List Fe}{G:List D->Sto->Out D}{σ:St}{H:Hp}{Q:VK}{n:Nat}
def ztr(q:tE cl E (eFn G fs) σ H Q)(hn:fs.length=n):zgO (zgQ cl n false G) [] E (tAs cl E fs) σ H Q:=by
 obtain ⟨B,w,ρ,S,rfl,R,q⟩:=q;refine ⟨B,w,ρ,S,rfl,R,?_⟩;unfold eFn at q
 cases hf:zal fs ρ S with
 | bad=>rwa [hf] at q
 | exc c S1=>rwa [hf] at q
 | ok ds S1 =>
  rw [hf] at q;intro vs w1 R1 F1 h1;dsimp only [Out.bind] at q
  have hl:∀(fs:List Fe) (S S1:Sto) (ds:List D),zal fs ρ S=.ok ds S1->ds.length=fs.length:=by
   intro fs
   induction fs with
   | nil=>intro S S1 ds h;cases h;rfl
   | cons f fs ih =>
    intro S S1 ds h;unfold zal at h
    cases h1:f ρ S with
    | bad=>rw [h1] at h;cases h
    | exc c S2=>rw [h1] at h;cases h
    | ok d S2 =>
     rw [h1] at h;dsimp only [Out.bind] at h
     cases h2:zal fs ρ S2 with
     | bad=>rw [h2] at h;cases h
     | exc c S3=>rw [h2] at h;cases h
     | ok es S3=>rw [h2] at h;cases h;rw [yan,yan,ih S2 _ es h2]
  refine ⟨by rw [yaS,h1.length,hl fs S S1 ds hf];exact hn,w1.base,w1.inn,ds,S1,rfl,R1.wd.enter,by rw [yaS];exact h1.up (zcu w1),?_⟩
  cases hg:G ds S1 with
  | bad=>rwa [hg] at q
  | exc c S2 =>
   rw [hg] at q;intro w2 W2 F2;obtain ⟨R3,F3⟩:=R1.leave W2 F2;exact q (w1.back w2) R3 (F1.trans F3)
  | ok d S2 =>
   rw [hg] at q;intro v w2 W2 F2 r2;obtain ⟨R3,F3⟩:=R1.leave W2 F2;exact q v (w1.back w2) R3 (F1.trans F3) (Shd.up (zds W2) r2)
def ztq(q:tN cl E (eFn G fs) σ H Q)(hn:fs.length=n):zgO (zgQ cl n true G) [] E (tAs cl E fs) σ H Q:=by
 obtain ⟨B,w,ρ,S,rfl,R,q⟩:=q;refine ⟨B,w,ρ,S,rfl,R,?_⟩;unfold eFn at q
 cases hf:zal fs ρ S with
 | bad=>rwa [hf] at q
 | exc c S1=>rwa [hf] at q
 | ok ds S1 =>
  rw [hf] at q;intro vs w1 R1 F1 h1;dsimp only [Out.bind] at q
  have hl:∀(fs:List Fe) (S S1:Sto) (ds:List D),zal fs ρ S=.ok ds S1->ds.length=fs.length:=by
   intro fs
   induction fs with
   | nil=>intro S S1 ds h;cases h;rfl
   | cons f fs ih =>
    intro S S1 ds h;unfold zal at h
    cases h1:f ρ S with
    | bad=>rw [h1] at h;cases h
    | exc c S2=>rw [h1] at h;cases h
    | ok d S2 =>
     rw [h1] at h;dsimp only [Out.bind] at h
     cases h2:zal fs ρ S2 with
     | bad=>rw [h2] at h;cases h
     | exc c S3=>rw [h2] at h;cases h
     | ok es S3=>rw [h2] at h;cases h;rw [yan,yan,ih S2 _ es h2]
  refine ⟨by rw [yaS,h1.length,hl fs S S1 ds hf];exact hn,w1.base,w1.inn,ds,S1,rfl,R1.wd.enter,by rw [yaS];exact h1.up (zcu w1),?_⟩
  cases hg:G ds S1 with
  | bad=>rwa [hg] at q
  | exc c S2 =>
   rw [hg] at q;intro w2 W2 F2;obtain ⟨R3,F3⟩:=R1.leave W2 F2;exact q (w1.back w2) R3 (F1.trans F3)
  | ok d S2 =>
   rw [hg] at q;intro v w2 W2 F2 r2;obtain ⟨R3,F3⟩:=R1.leave W2 F2;obtain ⟨a,o,i,rfl,k1,k2,t⟩:=r2;have hfr:w1.base.Fr a=none:=(W2.own a _ k1).elim (fun z=>by cases z) fun z=>z
   have k3:(w1.back w2).ow a=some .far:=by
    show (if (w1.base.Fr a).isSome=true then w1.ow a else Root.out (w2.ow a))=_;rw [hfr,k1];rfl
   have hb:B.Fr a=none:=by
    cases z:B.Fr a with
    | none=>rfl
    | some u=>rw [zdQ R1.wd z] at hfr;cases hfr
   have hd:=zii (w:=w1.back w2) (a:=a) (by rw [k3];exact yaE _);have:=q a o ((w1.back w2).del a) (R3.del k3 hb) (F1.trans (F3.trans hd)) (if_pos rfl) ((t.up (zds W2)).up hd);rwa [zkl (w:=w1.back w2) k2] at this
end
noncomputable def frz1(ρ:Env)(i:Nat):Env:=match ρ[i]? with | some (some (true,d))=>ρ.set i (some (false,d)) | _=>ρ
def frz(is:List Nat)(ρ:Env):Env:=is.foldl frz1 ρ
def sFz(is:List Nat)(f:Fs):Fs:=fun ρ S=>f (frz is ρ) S
noncomputable def sNx:Fs:=fun ρ S=>.nx ρ S
noncomputable def sBk:Fs:=fun ρ S=>.bk ρ S
noncomputable def zaj(f g:Fs):Fs:=fun ρ S=>match f ρ S with | .nx ρ' S'=>g ρ' S' | o=>o
noncomputable def zbV(i:Nat)(own:Bool)(f:Fe):Fs:=fun ρ S=>match f ρ S with | .ok d S'=>.nx (ρ.set i (some (own,d))) S' | .exc c S'=>.ex c ρ S' | .bad=>.bad
noncomputable def zpp(f:Fe):Fs:=fun ρ S=>match f ρ S with | .ok _ S'=>.nx ρ S' | .exc c S'=>.ex c ρ S' | .bad=>.bad
noncomputable def za6(f:Fe):Fs:=fun ρ S=>match f ρ S with | .ok d S'=>.rt d S' | .exc c S'=>.ex c ρ S' | .bad=>.bad
noncomputable def zmy:Fs:=fun _ S=>.rt .non S
noncomputable def zh0(i:Nat):Fs:=fun ρ S=>match ρ[i]? with | some (some (true,d))=>.rt d S | _=>.bad
def sIf(c:Fe)(f g:Fs):Fs:=fun ρ S=>match c ρ S with | .ok d S'=>(match isB d with | some true=>f ρ S' | some false=>g ρ S' | none=>.bad) | .exc x S'=>.ex x ρ S' | .bad=>.bad
noncomputable def zgC(cl:Cf)(E:St->XK)(own:Bool)(B:Base)(w:Wd)(De:Ends):Fo->Prop
 | .nx ρ' S'=>∀σ' w',Rel cl B σ' w' ρ' S'->Fut w w'->De.nx σ' w'.H
 | .bk ρ' S'=>∀σ' w',Rel cl B σ' w' ρ' S'->Fut w w'->De.bk σ' w'.H
 | .ct ρ' S'=>∀σ' w',Rel cl B σ' w' ρ' S'->Fut w w'->De.ct σ' w'.H
 | .rt d S'=>∀v w',World' cl B w' S'->Fut w w'->zxY cl w' own v d->De.rt v w'.H
 | .ex c ρ' S'=>∀σ' w',Rel cl B σ' w' ρ' S'->Fut w w'->E σ' (.ref (cl c)) none w'.H
 | .bad=>False
theorem zgC.up(f:Fut w w1):∀{o:Fo},zgC cl E own B w De o->zgC cl E own B w1 De o
 | .nx _ _,h=>fun σ' w' R F=>h σ' w' R (f.trans F)
 | .bk _ _,h=>fun σ' w' R F=>h σ' w' R (f.trans F)
 | .ct _ _,h=>fun σ' w' R F=>h σ' w' R (f.trans F)
 | .rt _ _,h=>fun v w' R F=>h v w' R (f.trans F)
 | .ex _ _ _,h=>fun σ' w' R F=>h σ' w' R (f.trans F)
 | .bad,h=>h
noncomputable def tS(cl:Cf)(E:St->XK)(own:Bool)(f:Fs):TS:=fun De σ H=>∃B w ρ S,w.H=H/\Rel cl B σ w ρ S/\zgC cl E own B w De (f ρ S)
def PS.imp{X:Cx}{st:Stmt}{t t':TS}(h:PS X st t)(i:∀De σ H,t' De σ H->t De σ H):PS X st t':=fun pins s σ H De I q=>h pins s σ H De I (i _ _ _ q)
def PSs.imp{X:Cx}{st:List Stmt}{t t':TS}(h:PSs X st t)(i:∀De σ H,t' De σ H->t De σ H):PSs X st t':=fun pins s σ H De I q=>h pins s σ H De I (i _ _ _ q)
section
variable{cl:Cf}{B:Base}{σ:St}{w:Wd}{ρ:Env}{S:Sto}
def Rel.put(R:Rel cl B σ w ρ S)(h:Shd cl w v d):Rel cl B (σ.set i (some v)) w (ρ.set i (some (false,d))) S where
 wd:=R.wd
 len:=by rw [yaL,yaL];exact R.len
 slots:=fun j o e hj=>by
  by_cases hij:i=j
  ·subst hij
   have hlt:i<ρ.length:=by
    have:=(yai.mp hj).1;rwa [yaL] at this
   rw [yaH hlt] at hj;cases hj;exact ⟨v,by rw [yaH (by rw [R.len];exact hlt)],h⟩
  ·rw [yaT hij] at hj ⊢;exact R.slots j o e hj
def Wd.addAs(w:Wd)(p:Addr)(o:HO)(r:Root):Wd:=⟨upd w.H p o,fun a=>if a=p then some r else if w.ow a=some r then some .far else w.ow a,w.mu⟩
def zbx(h:w.H p=none):Fut w (w.addAs p o r) where
 keep:=fun a u ha hk=>by
  have n:a≠p:=zav ha h;refine ⟨?_,?_⟩
  ·show upd w.H p o a=_;rw [zao n];exact ha
  ·show (if a=p then some r else if w.ow a=some r then some Root.far else w.ow a)=none;rw [if_neg n,if_neg (by rw [hk];exact fun z=>by cases z)];exact hk
 mu:=fun _ _ h=>h
theorem Rel.own(R:Rel cl B σ w ρ S)(hp:w.H p=none)(t:Top cl w o d):Rel cl B (σ.set i (some (.ref p))) (w.addAs p o (.slot i)) (ρ.set i (some (true,d))) S:=by
 have ff:=zbx (w:=w) (p:=p) (o:=o) (r:=.slot i) hp
 have kp:∀a u,w.H a=some u->w.ow a≠some (.slot i)->(w.addAs p o (.slot i)).H a=some u/\(w.addAs p o (.slot i)).ow a=w.ow a:=fun a u ha hk=>by
  have n:a≠p:=zav ha hp;refine ⟨?_,?_⟩
  ·show upd w.H p o a=_;rw [zao n];exact ha
  ·show (if a=p then _ else if w.ow a=some (Root.slot i) then some Root.far else w.ow a)=_;rw [if_neg n,if_neg hk]
 have hBp:B.Fr p=none:=by
  cases z:B.Fr p with
  | none=>rfl
  | some u=>have:=(R.wd.fr p u z).1;rw [hp] at this;cases this
 refine ⟨⟨fun a u h=>?_,fun a r h=>?_,R.wd.len,fun n ob h=>?_⟩,by rw [yaL,yaL];exact R.len,fun j b e hj=>?_⟩
 ·have hne:w.ow a≠some (.slot i):=fun z=>by
   rcases R.wd.own a _ z with y | y
   ·cases y
   ·rw [h] at y;cases y
  have:=kp a u (R.wd.fr a u h).1 hne;exact ⟨this.1,this.2.trans (R.wd.fr a u h).2⟩
 ·have h':(if a=p then some (Root.slot i) else if w.ow a=some (Root.slot i) then some Root.far else w.ow a)=some r:=h;split at h'
  ·rename_i e;rw [e];exact .inr hBp
  ·split at h'
   ·cases h';exact .inl rfl
   ·exact R.wd.own a r h'
 ·obtain ⟨a,e,x⟩:=R.wd.obj n ob h;exact ⟨a,e,x.keep ff fun b u hb hn=>kp b u hb fun z=>by rwa [z] at hn⟩
 ·by_cases hij:i=j
  ·subst hij
   have hlt:i<ρ.length:=by
    have:=(yai.mp hj).1;rwa [yaL] at this
   rw [yaH hlt] at hj;cases hj;exact ⟨.ref p,by rw [yaH (by rw [R.len];exact hlt)],p,o,rfl,if_pos rfl,zay,t.up ff⟩
  ·rw [yaT hij] at hj ⊢;obtain ⟨v,e1,x⟩:=R.slots j b e hj;refine ⟨v,e1,x.keep ff fun a u ha hr=>?_⟩;have:=kp a u ha (by rw [hr];exact fun z=>hij (by cases z;rfl));exact ⟨this.1,this.2.trans hr⟩
def Wd.mut(w:Wd)(p:Addr)(o:HO):Wd:=⟨upd w.H p o,w.ow,w.mu⟩
def zc6(h:w.ow p≠none):Fut w (w.mut p o) where
 keep:=fun a u ha hk=>⟨by
  show upd w.H p o a=_
  rw [zao (fun z=>h (by rw [<-z];exact hk))];exact ha,hk⟩
 mu:=fun _ _ h=>h
theorem Rel.mut{i:Nat}{p:Addr}{o:HO}{d d0:D}(R:Rel cl B σ w ρ S)(hs:σ[i]?=some (some (.ref p)))(hk:w.ow p=some (.slot i))(t:Top cl w o d):Rel cl B σ (w.mut p o) (ρ.set i (some (true,d))) S:=by
 have ff:=zc6 (w:=w) (p:=p) (o:=o) (by rw [hk];exact yaE _)
 have kp:∀a u,w.H a=some u->w.ow a≠some (.slot i)->(w.mut p o).H a=some u/\(w.mut p o).ow a=w.ow a:=fun a u ha hn=>⟨by
  show upd w.H p o a=_
  rw [zao (fun z=>hn (by rw [z];exact hk))];exact ha,rfl⟩
 have hBp:B.Fr p=none:=(R.wd.own p _ hk).elim (fun z=>by cases z) fun z=>z
 refine ⟨⟨fun a u h=>?_,R.wd.own,R.wd.len,fun n ob h=>?_⟩,by rw [yaL];exact R.len,fun j b e hj=>?_⟩
 ·have hne:w.ow a≠some (.slot i):=fun z=>by
   rcases R.wd.own a _ z with y | y
   ·cases y
   ·rw [h] at y;cases y
  have:=kp a u (R.wd.fr a u h).1 hne;exact ⟨this.1,(R.wd.fr a u h).2⟩
 ·obtain ⟨a,e,x⟩:=R.wd.obj n ob h;exact ⟨a,e,x.keep ff fun b u hb hn=>kp b u hb fun z=>by rwa [z] at hn⟩
 ·by_cases hij:i=j
  ·subst hij
   have hlt:i<ρ.length:=by
    have:=(yai.mp hj).1;rwa [yaL] at this
   rw [yaH hlt] at hj;cases hj;exact ⟨.ref p,hs,p,o,rfl,hk,zay,t.up ff⟩
  ·rw [yaT hij] at hj;obtain ⟨v,e1,x⟩:=R.slots j b e hj;refine ⟨v,e1,x.keep ff fun a u ha hr=>?_⟩;have:=kp a u ha (by rw [hr];exact fun z=>hij (by cases z;rfl));exact ⟨this.1,this.2.trans hr⟩
noncomputable def Wd.free(w:Wd)(r:Root):Wd:=⟨w.H,fun a=>if w.ow a=some r then none else w.ow a,w.mu⟩
def znx:Fut w (w.free r) where
 keep:=fun a u ha hk=>⟨ha,by
  show (if w.ow a=some r then none else w.ow a)=none
  rw [hk];rfl⟩
 mu:=fun _ _ h=>h
theorem Top.shd(h:w.H a=some o)(k:w.ow a=none):Top cl w o d->Shd cl w (.ref a) d
 | .lst t=>.lst h k t
 | .dicK t=>.dicK h k t
 | .dicX x=>.dicX h k x
theorem Rel.frz1(R:Rel cl B σ w ρ S)(i:Nat):∃w',w'.H=w.H/\Fut w w'/\Rel cl B σ w' (frz1 ρ i) S:=by
 unfold S2.frz1;split
 ·rename_i d hd;have ff:=znx (w:=w) (r:=.slot i);have kp:∀a u,w.H a=some u->w.ow a≠some (.slot i)->(w.free (.slot i)).H a=some u/\(w.free (.slot i)).ow a=w.ow a:=fun a u ha hn=>⟨ha,if_neg hn⟩
  refine ⟨w.free (.slot i),rfl,ff,⟨fun a u h=>?_,fun a r h=>?_,R.wd.len,fun n ob h=>?_⟩,by rw [yaL];exact R.len,fun j b e hj=>?_⟩
  ·have hne:w.ow a≠some (.slot i):=fun z=>by
    rcases R.wd.own a _ z with y | y
    ·cases y
    ·rw [h] at y;cases y
   have:=kp a u (R.wd.fr a u h).1 hne;exact ⟨this.1,this.2.trans (R.wd.fr a u h).2⟩
  ·have h':(if w.ow a=some (Root.slot i) then none else w.ow a)=some r:=h;split at h'
   ·cases h'
   ·exact R.wd.own a r h'
  ·obtain ⟨a,e,x⟩:=R.wd.obj n ob h;exact ⟨a,e,x.keep ff fun b u hb hn=>kp b u hb fun z=>by rwa [z] at hn⟩
  ·by_cases hij:i=j
   ·subst hij;have hlt:i<ρ.length:=(yai.mp hd).1;rw [yaH hlt] at hj;cases hj;obtain ⟨v,e1,a,o,rfl,h1,h2,t⟩:=R.slots i true d hd;refine ⟨.ref a,e1,(t.up ff).shd h2 ?_⟩;show (if w.ow a=some (Root.slot i) then none else w.ow a)=none;rw [if_pos h1]
   ·rw [yaT hij] at hj;obtain ⟨v,e1,x⟩:=R.slots j b e hj;refine ⟨v,e1,x.keep ff fun a u ha hr=>?_⟩;have:=kp a u ha (by rw [hr];exact fun z=>hij (by cases z;rfl));exact ⟨this.1,this.2.trans hr⟩
 ·exact ⟨w,rfl,Fut.refl _,R⟩
theorem Rel.frz:∀(is:List Nat) {w:Wd} {ρ:Env},Rel cl B σ w ρ S->∃w',w'.H=w.H/\Fut w w'/\Rel cl B σ w' (frz is ρ) S
 | [],w,ρ,R=>⟨w,rfl,Fut.refl _,R⟩
 | i::is,w,ρ,R=>by
  obtain ⟨w1,e1,f1,R1⟩:=R.frz1 i;obtain ⟨w2,e2,f2,R2⟩:=Rel.frz is R1;exact ⟨w2,e2.trans e1,f1.trans f2,R2⟩
end
section
variable{X:Cx}{cl:Cf}{E:St->XK}{own:Bool}{st:Stmt}{zbW:List Stmt}{f g:Fs}{e:Expr}{fe:Fe}{pos pos':Pos}
def zuw(is:List Nat)(h:PS X st (tS cl E own f)):PS X st (tS cl E own (sFz is f)):=by
 refine PS.imp h ?_;rintro De σ H ⟨B,w,ρ,S,rfl,R,q⟩;obtain ⟨w',e',f',R'⟩:=R.frz is;exact ⟨B,w',frz is ρ,S,e',R',zgC.up f' q⟩
def zrq:PSs X [] (tS cl E own sNx):=by
 refine PSs.imp zpu ?_;rintro De σ H ⟨B,w,ρ,S,rfl,R,q⟩;exact q σ w R (Fut.refl _)
def zo8(h1:PS X st (tS cl E own f))(h2:PSs X zbW (tS cl E own g)):PSs X (st::zbW) (tS cl E own (zaj f g)):=by
 refine PSs.imp (zmJ h1 h2) ?_;rintro De σ H ⟨B,w,ρ,S,rfl,R,q⟩;refine ⟨B,w,ρ,S,rfl,R,?_⟩;unfold zaj at q
 cases hf:f ρ S with
 | nx ρ' S' =>
  rw [hf] at q;intro σ' w' R' F';exact ⟨B,w',ρ',S',rfl,R',zgC.up F' q⟩
 | bk ρ' S'=>rwa [hf] at q
 | ct ρ' S'=>rwa [hf] at q
 | rt d S'=>rwa [hf] at q
 | ex c ρ' S'=>rwa [hf] at q
 | bad=>rwa [hf] at q
def zo4:PS X (.Pass pos) (tS cl E own sNx):=by
 refine PS.imp zpw ?_;rintro De σ H ⟨B,w,ρ,S,rfl,R,q⟩;exact q σ w R (Fut.refl _)
def zrs:PS X (.Break pos) (tS cl E own sBk):=by
 refine PS.imp zmM ?_;rintro De σ H ⟨B,w,ρ,S,rfl,R,q⟩;exact q σ w R (Fut.refl _)
def zvJ(q:tS cl E own (zbV i false fe) De σ H):zqU (tE cl E fe) (zlI i) De σ H:=by
 obtain ⟨B,w,ρ,S,rfl,R,q⟩:=q;refine ⟨B,w,ρ,S,rfl,R,?_⟩;unfold zbV at q
 cases hf:fe ρ S with
 | bad=>rwa [hf] at q
 | exc c S1=>rw [hf] at q;exact fun w' R' F'=>q σ w' R' F'
 | ok d S1 =>
  rw [hf] at q;intro v w' R' F' h';exact q _ w' (R'.put h') F'
def ztw(q:tS cl E own (zbV i true fe) De σ H):zqU (tN cl E fe) (zlI i) De σ H:=by
 obtain ⟨B,w,ρ,S,rfl,R,q⟩:=q;refine ⟨B,w,ρ,S,rfl,R,?_⟩;unfold zbV at q
 cases hf:fe ρ S with
 | bad=>rwa [hf] at q
 | exc c S1=>rw [hf] at q;exact fun w' R' F'=>q σ w' R' F'
 | ok d S1 =>
  rw [hf] at q;intro p o w' R' F' hp t;exact q _ (w'.addAs p o (.slot i)) (R'.own hp t) (F'.trans (zbx hp))
def zru(hN:X.N.Nodup)(hi:X.N[i]?=some x)(hx:Loc X.env.scope x)(he:PE X e (tE cl E fe))(hs:swapsWith e (some (.Name x pos')) pos.line X.env=pure false)(hf:X.fn x=true\/X.env.scope.names.lookup x=some .local):PS X (.Assign [.Name x pos'] e pos) (tS cl E own (zbV i false fe)) :=
 PS.imp (zod hN hi hx he hs hf) fun _ _ _ q=>zvJ q
def zkx(hN:X.N.Nodup)(hi:X.N[i]?=some x)(hx:Loc X.env.scope x)(he:PE X e (tN cl E fe))(hs:swapsWith e (some (.Name x pos')) pos.line X.env=pure false)(hf:X.fn x=true\/X.env.scope.names.lookup x=some .local):PS X (.Assign [.Name x pos'] e pos) (tS cl E own (zbV i true fe)) :=
 PS.imp (zod hN hi hx he hs hf) fun _ _ _ q=>ztw q
def zn6(he:PE X e (tE cl E fe))(hs:swapsWith e none pos.line X.env=pure false):PS X (.Expr e pos) (tS cl E own (zpp fe)):=by
 refine PS.imp (zf9 he hs) ?_;rintro De σ H ⟨B,w,ρ,S,rfl,R,q⟩;refine ⟨B,w,ρ,S,rfl,R,?_⟩;unfold zpp at q
 cases hf:fe ρ S with
 | bad=>rwa [hf] at q
 | exc c S1=>rw [hf] at q;exact fun w' R' F'=>q σ w' R' F'
 | ok d S1=>rw [hf] at q;exact fun v w' R' F' _=>q σ w' R' F'
def zrp(he:PE X e (tE cl E fe)):PS X (.Return (some e) pos) (tS cl E false (za6 fe)):=by
 refine PS.imp (zkR he) ?_;rintro De σ H ⟨B,w,ρ,S,rfl,R,q⟩;refine ⟨B,w,ρ,S,rfl,R,?_⟩;unfold za6 at q
 cases hf:fe ρ S with
 | bad=>rwa [hf] at q
 | exc c S1=>rw [hf] at q;exact fun w' R' F'=>q σ w' R' F'
 | ok d S1=>rw [hf] at q;exact fun v w' R' F' h'=>q v w' R'.wd F' h'
def zo0(he:PE X e (tN cl E fe)):PS X (.Return (some e) pos) (tS cl E true (za6 fe)):=by
 refine PS.imp (zkR he) ?_;rintro De σ H ⟨B,w,ρ,S,rfl,R,q⟩;refine ⟨B,w,ρ,S,rfl,R,?_⟩;unfold za6 at q
 cases hf:fe ρ S with
 | bad=>rwa [hf] at q
 | exc c S1=>rw [hf] at q;exact fun w' R' F'=>q σ w' R' F'
 | ok d S1 =>
  rw [hf] at q;intro p o w' R' F' hp t;have ff:=zbx (w:=w') (p:=p) (o:=o) (r:=.slot 0) hp;exact q (.ref p) (w'.addAs p o (.slot 0)) (Rel.own (i:=0) R' hp t).wd (F'.trans ff) ⟨p,o,0,rfl,if_pos rfl,zay,t.up ff⟩
def zoZ(hN:X.N[i]?=some x)(hv:Vis X.env.scope x)(hd:(x == ("__debug__":Str))=false)(hcd:(x == ("__classdict__":Str))=false):PS X (.Return (some (.Name x pos')) pos) (tS cl E true (zh0 i)):=by
 refine PS.imp (zkR (zcl hN hv hd hcd)) ?_;rintro De σ H ⟨B,w,ρ,S,rfl,R,q⟩;unfold zh0 at q;split at q
 ·rename_i d hd;obtain ⟨v,e1,a,o,rfl,h1,h2,t⟩:=R.slots i true d hd;exact ⟨_,e1,q _ w R.wd (Fut.refl _) ⟨a,o,i,rfl,h1,h2,t⟩⟩
 ·exact q.elim
def zo1:PS X (.Return none pos) (tS cl E false zmy):=by
 refine PS.imp zpv ?_;rintro De σ H ⟨B,w,ρ,S,rfl,R,q⟩;exact q .non w R.wd (Fut.refl _) .non
def zuv(hc:PT X c (tTr cl E fc))(ha:PSs X a (tS cl E own f))(hb:PSs X b (tS cl E own g)):PS X (.If c a b pos) (tS cl E own (sIf fc f g)):=by
 refine PS.imp (zuL hc ha hb) ?_;rintro De σ H ⟨B,w,ρ,S,rfl,R,q⟩;refine ⟨B,w,ρ,S,rfl,R,?_⟩;unfold sIf at q
 cases hg:fc ρ S with
 | bad=>rwa [hg] at q
 | exc c S1=>rw [hg] at q;exact fun w' R' F'=>q σ w' R' F'
 | ok d S1 =>
  rw [hg] at q;dsimp only at q ⊢
  cases hb:isB d with
  | none=>rw [hb] at q;exact q.elim
  | some b =>
   rw [hb] at q;intro w1 R1 F1
   cases b with
   | true=>exact znm ⟨B,w1,ρ,S1,rfl,R1,zgC.up F1 q⟩
   | false=>exact znn ⟨B,w1,ρ,S1,rfl,R1,zgC.up F1 q⟩
end
def ziH(i:Nat)(fe:Fe):Fs:=fun ρ S=>match ρ[i]? with
 | some (some (true,.lst l))=>(match fe ρ S with
  | .ok d S'=>if zaH l.length then .nx (ρ.set i (some (true,.lst (l++[d])))) S' else .bad
  | .exc c S'=>.ex c ρ S' | .bad=>.bad)
 | _=>.bad
section
variable{X:Cx}{cl:Cf}{E:St->XK}{own:Bool}{e:Expr}{fe:Fe}{pos pos':Pos}
def ziE(h:zaH n=true):n<sizeLine:=Nat.lt_of_le_of_lt (yaq h) (by decide)
def Rel.list(R:Rel cl B σ w ρ S)(h:ρ[i]?=some (some (true,.lst l))):∃a xs,σ[i]?=some (some (.ref a))/\w.ow a=some (.slot i)/\w.H a=some (.lst xs)/\Shds cl w xs l:=by
 obtain ⟨v,e1,a,o,rfl,h1,h2,t⟩:=R.slots i true _ h
 cases t with
 | lst t=>exact ⟨a,_,e1,h1,h2,t⟩
def zrv(hN:X.N[i]?=some x)(hv:Vis X.env.scope x)(hd:(x == ("__debug__":Str))=false)(hcd:(x == ("__classdict__":Str))=false)(he:PE X e (tE cl E fe))
  (hpl:zbq e=true) (hln:(ap.endLine == cp.line)=true):PS X (.Expr (.Call (.Attribute (.Name x pos') "append" ap) [e] [] cp) pos) (tS cl E own (ziH i fe)):=by
 refine PS.imp (zf9 (zk2 (es:=[]) ybs PySem.F.slot_list_append PySem.F.type_list_append zhh (zcl hN hv hd hcd) (za7 he zcF (zaN hpl)) (hfew:=zfi (by simp [hpl]) (by simp)) (hline:=hln) (hs:=zaN hpl) (hplain:=rfl))) ?_;rintro De σ H ⟨B,w,ρ,S,rfl,R,q⟩;unfold ziH at q;split at q
 ·rename_i l hl;obtain ⟨a,xs,e1,h1,h2,t⟩:=R.list hl;refine ⟨_,e1,.inl ⟨rfl,_,SqL.of h2⟩,B,w,ρ,S,rfl,R,?_⟩
  cases hf:fe ρ S with
  | bad=>rwa [hf] at q
  | exc c S1=>rw [hf] at q;exact fun w' R' F'=>q σ w' R' F'
  | ok d S1 =>
   rw [hf] at q;intro v w' R' F' h';dsimp only at q
   cases hz:zaH l.length with
   | false=>rw [hz,if_neg (by decide)] at q;exact q.elim
   | true =>
    rw [hz,if_pos rfl] at q;obtain ⟨a',xs',e1',h1',h2',t'⟩:=R'.list hl;rw [e1] at e1';cases e1';refine ⟨a,xs',v,rfl,rfl,h2',by rw [t'.length];exact ziE hz,?_⟩;exact q σ (w'.mut a (.lst (xs'++[v]))) (R'.mut (d0:=.non) e1 h1' (.lst (t'.append (.cons h' .nil)))) (F'.trans (zc6 (by rw [h1'];exact yaE _)))
 ·exact q.elim
end
end S2
namespace L2
open PySem PySem.Spec PyProof.Rows
section
variable{prog:Program}{w:World}{A:Around}{E:Z5}{s:Shared}
def zmo{it t:Addr}{j:Nat}{vs:Array Value}{v:Value}{Q:Z5}(st:s.heap.IsTupleIter it t j)(tp:s.heap.IsTuple t vs)(e:vs[j]?=some v)
  (q:∀h',h'.IsTupleIter it t (j+1)->Heap.SameBut it s.heap h'->Q v { s with heap:=h' }):wpAny (model prog w) A (Builtin.SmallTypes.nextOf (.ref it)) Q E s:=by
 obtain ⟨o1,g1,c1,d1⟩:=id st;obtain ⟨o2,g2,_,n2,d2⟩:=tp;unfold Builtin.SmallTypes.nextOf;refine yaa (yaV (name:=Str.ofString "__next__") st.typeIs ybD (yaU ybD st.typeIs F.entry_tuple_iterator_next ?_ (F.args_tuple_iterator_next_1 _)));show wpAny _ _ (field (.ref it) 0 >>= _) _ _ s;refine yaa (ybA g1 d1 (x:=.ref t) rfl ?_);show wpAny _ _ (if (Value.ref t == Value.none)=true then _ else _) _ _ s;rw [if_neg (show ¬ ((Value.ref t == Value.none)=true) from fun z=>yaP z)];show wpAny _ _ (field (.ref it) 1 >>= _) _ _ s;refine yaa (ybA g1 d1 (x:=.int j 0) rfl ?_);show wpAny _ _ (seqItems? (.ref t) >>= _) _ _ s;refine yaa (ybv g2 d2 ?_);simp only [yaI,e];refine yaa (yct g1 d1 (by simp) (yae ⟨v,rfl,yae (q _ ?_ (Heap.SameBut.update ..))⟩));refine ⟨_,ybp _ g1 (ycy (ybk d1 _)),(yc4 ..).trans c1,?_⟩;rw [ybk d1];simp [rawInt]
def zkn{it t:Addr}{j:Nat}{vs:Array Value}{Q:Z5}(hh:A.handled=none)(st:s.heap.IsTupleIter it t j)(tp:s.heap.IsTuple t vs)(e:vs[j]?=none)
  (q:∀h' x,Heap.ExtBut it s.heap h'->(∃o,h'.get? x=some o/\o.cls=.type "StopIteration")->E (.ref x) { s with heap:=h' }):wpAny (model prog w) A (Builtin.SmallTypes.nextOf (.ref it)) Q E s:=by
 obtain ⟨o1,g1,c1,d1⟩:=id st;obtain ⟨o2,g2,_,n2,d2⟩:=tp;unfold Builtin.SmallTypes.nextOf;refine yaa (yaV (name:=Str.ofString "__next__") st.typeIs ybD (yaU ybD st.typeIs F.entry_tuple_iterator_next ?_ (F.args_tuple_iterator_next_1 _)));show wpAny _ _ (field (.ref it) 0 >>= _) _ _ s;refine yaa (ybA g1 d1 (x:=.ref t) rfl ?_);show wpAny _ _ (if (Value.ref t == Value.none)=true then _ else _) _ _ s;rw [if_neg (show ¬ ((Value.ref t == Value.none)=true) from fun z=>yaP z)];show wpAny _ _ (field (.ref it) 1 >>= _) _ _ s;refine yaa (ybA g1 d1 (x:=.int j 0) rfl ?_);show wpAny _ _ (seqItems? (.ref t) >>= _) _ _ s;refine yaa (ybv g2 d2 ?_);simp only [yaI,e];refine yaa (ycL (yaa (yct g1 d1 (by simp) ?_)));show wpAny _ _ (newExc (.type "StopIteration") [] >>= _) _ _ _;refine yaa ?_;simp only [newExc,newTuple];refine yaa (yaX ?_ (by size_fits));refine yaa (m:=firstArgMember _ _) (ycr (a:=Value.none) ?_ ?_)
 ·first | rfl | (simp only [firstArgMember];rfl)
 refine yaX ?_ (by size_fits);simp only [raiseNew];refine yaa (wpAny_handled ?_)
 first | rw [show A.in1.handled=none from hh] | rw [hh]
 refine yaa (yae (wpAny_throw (q _ _ (((Heap.SameBut.update ..).extBut.push _).push _) ⟨_,yao _ rfl,rfl⟩)))
def zhz(hh:A.handled=none)(it t:Addr)(ne:t≠it)(vs:Array Value):Draws prog w A it [it,t] vs.size (fun j v=>vs[j]?=some v) (fun j h=>h.IsTupleIter it t j/\h.IsTuple t vs) where
 live:=fun _ _ st=>by obtain ⟨⟨o,ho,_⟩,_⟩:=st;exact ⟨o,ho⟩
 frame:=fun _ _ _ st hk=>⟨st.1.at fun o e=>hk it (by simp) o e,by obtain ⟨o,ho,r⟩:=st.2;exact ⟨o,hk t (by simp) o ho,r⟩⟩
 item:=fun j s Q E hj st hQ=>zmo st.1 st.2 (v:=vs[j]) (by simp [hj]) fun h' st' sb=>hQ _ h' s.toks (by simp [hj]) ⟨st',by obtain ⟨o,ho,r⟩:=st.2;exact ⟨o,(sb.2 t ne).trans ho,r⟩⟩ sb
 done:=fun s Q E st hE=>zkn hh st.1 st.2 (by simp) hE
def zhu(l:Addr)(items:Array Value)(n:Nat)(dct:Option Addr)(sl:Array (Option Value)) :
  Meets (Builtin.«enumerate.__new__» ⟨[.type "enumerate",.ref l],[]⟩) (fun _ R s=>s.heap.get? l=some { cls:=.type "tuple",dict:=dct,data:=.seq items n,slots:=sl } ∧
   R (.ok (.ret (.ref (s.heap.push { cls:=.type "tuple_iterator",data:=.fields #[.ref l,.int 0 0] }).objs.size)))
    { s with heap:=(s.heap.push { cls:=.type "tuple_iterator",data:=.fields #[.ref l,.int 0 0] }).push { cls:=.type "enumerate",data:=.fields #[.none,.bool false,.ref s.heap.objs.size,rawInt 0,.none,.none] } }) :=
 .of_wp fun prog w A R s h=>by
  obtain ⟨hp,g,d,tk,os⟩:=s;obtain ⟨hl,h⟩:=h;have hsub:=sub_enumerate;have hT:Heap.IsTuple (Shared.heap ⟨hp,g,d,tk,os⟩) l items:=⟨_,hl,rfl,n,rfl⟩
  wp_walk using ycd hl
  refine wpAny_stack_any fun st=>yae ?_
  split
  ·rename_i c _ _ _ _ _
   cases (c == Value.type "enumerate")<;>(wp_walk using ycd hl,ybI hT;exact ⟨_,rfl,h⟩)
  ·wp_walk using ycd hl,ybI hT;exact ⟨_,rfl,h⟩
def zgz{l:Addr}{items:Array Value}{Q:Z5}(hL:s.heap.IsTuple l items)
  (h:∀h',IsEnum h' (s.heap.objs.size+1) s.heap.objs.size 0 .none->h'.IsTupleIter s.heap.objs.size l 0->h'.objs.size=s.heap.objs.size+2->(∀b o,s.heap.get? b=some o->h'.get? b=some o)->Q (.ref (s.heap.objs.size+1)) { s with heap:=h' }) :
  wpAny (model prog w) A (call (.type "enumerate") [.ref l]) Q E s:=by
 obtain ⟨⟨c,dct,dt,sl⟩,hl,hc,n,hd⟩:=hL;simp only at hc hd;subst hc hd;refine callType_new F.called_enumerate (by decide) (F.typeCall_enumerate_1 _) (F.newCall_enumerate_1 _) (fun obj=>F.args_object_init_2 obj _) F.entry_enumerate_new (zhu l items n dct sl) ⟨hl,?_⟩;generalize hp1:s.heap.push { cls:=.type "tuple_iterator",data:=.fields #[.ref l,.int 0 0] }=h1
 have hz:h1.objs.size=s.heap.objs.size+1:=by rw [<-hp1];exact ya0 ..
 have k1:∀b o,s.heap.get? b=some o->h1.get? b=some o:=fun b o x=>by rw [<-hp1];exact yag _ x
 have i1:h1.get? s.heap.objs.size=some { cls:=.type "tuple_iterator",data:=.fields #[.ref l,.int 0 0] }:=by rw [<-hp1];exact yao _ rfl
 show _/\_;rw [hz]
 have he:IsEnum (h1.push { cls:=.type "enumerate",data:=.fields #[.none,.bool false,.ref s.heap.objs.size,rawInt 0,.none,.none] }) (s.heap.objs.size+1) s.heap.objs.size 0 .none:=by
  rw [<-hz];exact yao _ rfl
 exact ⟨⟨_,he,rfl⟩,h _ he ⟨_,yag _ i1,rfl,rfl⟩ (by rw [ya0,hz]) fun b o x=>yag _ (k1 b o x)⟩
end
section
variable{X:Cx}{pins:Z3}{σ:St}{H:Hp}{s:Shared}
def Inv.turnedL{t':Nat}{h':Heap}{ch:List Addr}(I:Inv X pins σ H s)(k:∀b o,b ∉ ch->s.heap.get? b=some o->h'.get? b=some o)(hf:∀b∈ch,zmi X pins H b):Inv X pins σ H { s with heap:=h',toks:=t' }:=by
 have nit:∀b u,H b=some u->b ∉ ch:=fun b u e z=>by rw [(hf b z).1] at e;cases e
 refine I.step (g':=s.gens) (d':=s.drawn) (ch:=ch) (fun b hb=>?_) (fun b o _ _ hc e _=>k b o hc e) (fun b o _ _ hc e _=>⟨o.slots,k b o hc e⟩) (fun _ _ _ _ n=>n) (fun b o hc e=>⟨o,k b o hc e⟩) (fun _ _ e=>e) (fun _ _ _ e=>e) (fun b ps e=>⟨#[],by rw [e];simp⟩) (fun m hm=>?_) (fun b u e=>?_) I.bare
 ·obtain ⟨f0,f1,f2,f3,f4,f5⟩:=hf b hb;exact ⟨f3,f1,f4,f5⟩
 ·obtain ⟨o,es,ep,ho,r⟩:=hm;exact ⟨o,es,ep,k _ o (fun z=>(hf _ z).2.1 rfl) ho,r⟩
 ·refine (I.hok b u e).stay (fun c v hc q=>k c v ?_ q) (fun _ q=>q) fun _ _ q=>q
  rcases hc with z | z
  ·rw [z];exact nit b u e
  ·exact nit c _ z
noncomputable def ItE(S:Hp->Addr->List V->Prop)(a:Addr):It :=
 ⟨fun i H=>∃xs x,S H a xs/\xs[i]?=some x,fun i H x H'=>∃t y,x=.ref t/\H t=none/\H'=upd H t (.tup [.int (i:Int),y])/\∀xs,S H a xs->xs[i]?=some y,fun i H=>∃xs,S H a xs/\xs.length<=i⟩
def znD{i:Nat}{e it T:Addr}{h1 h2:Heap}{tk:Nat}{x:Value}{y:V}(I:Inv X pins σ H s)(hf:∀b∈[e,it],zmi X pins H b)(hT:T=s.heap.objs.size)(te:h1.get? T=some { cls:=.type "tuple",data:=.seq #[.int i tk,x] })
  (k:∀b o,b≠e->b≠it->s.heap.get? b=some o->h1.get? b=some o) (sb:Heap.SameBut e h1 h2) (ne:T≠e) (ry:zbr y x):Inv X pins σ (upd H T (.tup [.int (i:Int),y])) { s with heap:=h2,toks:=tk+1 }/\H T=none:=by
 have fr:H T=none:=by rw [hT];exact I.hok.fresh (yaj _)
 refine ⟨?_,fr⟩
 have I1:Inv X pins σ H { s with heap:=h2,toks:=tk+1 }:=I.turnedL (ch:=[e,it]) (fun b o hb q=>by
  simp only [yau,ya4,ycu,not_or] at hb
  exact (sb.2 b hb.1).trans (k b o hb.1 hb.2 q)) hf
 refine I1.track fr (by rw [hT];exact I.sz) (by rw [hT];exact ya6 I.lt) (fun z c q=>?_) (fun p hp=>?_) ?_
 ·obtain ⟨v,cq⟩:=I.cell z c q;rw [hT];exact yax cq.lt
 ·rw [hT];exact yax (yar (I.pin p hp).1)
 ·refine ⟨by show 2<=sizeLine;decide,[.int i tk,x],.cons ⟨tk,rfl⟩ (.cons ry .nil),?_⟩;exact ⟨_,(sb.2 T ne).trans te,rfl,_,rfl,rfl⟩
def zjx{P:Program}{K:PySem.W.Frag}(a it e:Addr)(hei:e≠it):Turn P w K (.Tuple elts x1 pos) (ItE (SqT K) a) [e,it] e (fun i h=>(∃old,IsEnum h e it (i:Int) old)/\h.IsTupleIter it a i) where
 mem:=by simp
 obj:=fun i h st b hb=>by
  obtain ⟨⟨old,he⟩,o,ho,c,d⟩:=st;simp only [yau,ya4,ycu] at hb
  rcases hb with rfl | rfl
  ·exact ⟨_,he,fun v z=>by cases z⟩
  ·exact ⟨o,ho,fun v z=>by rw [d] at z;cases z⟩
 keep:=fun i h h' st k=>by
  obtain ⟨⟨old,he⟩,hi⟩:=st;exact ⟨⟨old,k e (by simp) _ he⟩,hi.at fun o q=>k it (by simp) o q⟩
 item:=by
  intro X hP hw hK hc i pins s σ H E I hf st hg;subst hP hw hK;obtain ⟨xs,x,hq,hx⟩:=hg;obtain ⟨⟨old,he⟩,hi⟩:=st;obtain ⟨its,rv,p,hz⟩:=I.tuple hq;obtain ⟨u,hu,ru⟩:=rv.get hx
  have hlt:i<its.toArray.size:=by
   have:=(yai.mp hu).1;simpa using this
  have nat':a≠it:=by
   rintro rfl;obtain ⟨o,q,c,_⟩:=hi;obtain ⟨o2,q2,c2,_⟩:=id p;rw [q] at q2;cases q2;rw [c] at c2;simp at c2
  have nae:e ∉ [it,a]:=by
   simp only [yau,ya4,ycu,not_or];refine ⟨hei,?_⟩;rintro rfl;obtain ⟨o2,q2,c2,_⟩:=id p;rw [he] at q2;cases q2;simp at c2
  refine wpAny_pyNext_enum_itemD (D:=zhz (A:=X.A.in1) (I.ok.hd hc) it a nat' its.toArray) he ⟨hi,show s.heap.IsTuple a its.toArray from p⟩ hlt hei nae fun u' h1 tk hu' ho hi1 ht1 hz1 k1=>?_
  have eu:u'=u:=by
   have:its[i]?=some u':=by simpa using hu'
   rw [hu] at this;exact (Option.some.inj this).symm
  subst eu;have neT:s.heap.objs.size≠e:=ya6 (yar he);refine ⟨_,rfl,wpAny_letOwnedTupleGo_enum ho fun h2 he2 sb=>?_⟩;obtain ⟨I2,fr⟩:=znD (h2:=h2) (y:=x) I hf rfl ht1 k1 sb neT ru;refine ⟨.ref s.heap.objs.size,_,I2,rfl,⟨_,x,rfl,fr,rfl,fun ys hy=>by rw [I.tuple_inj hy hq];exact hx⟩,⟨⟨u',by simpa using he2⟩,hi1.1.at fun o q=>(sb.2 it (Ne.symm hei)).trans q⟩,fun b hb=>?_⟩;rw [zao]
  ·exact (hf b hb).1
  ·rintro rfl;simp only [yau,ya4,ycu] at hb
   rcases hb with z | z
   ·exact neT z
   ·obtain ⟨o,q,_⟩:=hi;exact absurd (yar q) (by rw [<-z];exact ya5 _)
 done:=by
  intro X hP hw hK hc i pins s σ H E I hf st hg;subst hP hw hK;obtain ⟨xs,hq,hx⟩:=hg;obtain ⟨⟨old,he⟩,hi⟩:=st;obtain ⟨its,rv,p,hz⟩:=I.tuple hq;have hl:=rv.length;obtain ⟨f0,f1,f2,f3,f4,f5⟩:=hf it (by simp);have ty:s.TypeIs (.ref e) "enumerate":=⟨_,he,rfl⟩;unfold pyNext;refine yaa (ycJ (yaV (name:=Str.ofString "__next__") ty F.slot_enumerate_next (yaU F.slot_enumerate_next ty F.entry_enumerate_next ?_ (F.args_enumerate_next_1 _))));show wpAny _ _ (field (.ref e) 2 >>= _) _ _ _;refine yaa (ybA he rfl (x:=.ref it) rfl ?_);refine yaa (zkn (I.ok.hd hc) hi (show s.heap.IsTuple a its.toArray from p) (by simp;omega) fun h' x eb hx'=>?_);obtain ⟨o,ho,hcl⟩:=hx';refine yaa (ybS (T:="StopIteration") (b:=true) ⟨o,ho,hcl⟩ isSubtype_stop ?_);exact yae ⟨rfl,I.turned (t':=s.toks) (fun b o hb q=>eb b o hb q) f0 f1 f3 f4 f5⟩
 self:=fun _ _ _ _ _ st h=>by
  obtain ⟨⟨old,he⟩,_⟩:=st;exact wpAny_pyIter_enum he h
theorem zl4:bootBuiltins "enumerate" = some (.type "enumerate"):=by decide +kernel
noncomputable def zzA(S:Hp->Addr->List V->Prop)(ta:TA):TI:=fun σ H R=>ta σ H fun vs H1=>∃a,vs=[.ref a]/\(∃xs,S H1 a xs)/\R (ItE S a) H1
def zmQ{K:PySem.W.Frag}{elts:List Expr}{x1:Nat}{tp:Pos}{a:Expr}{ta:TA}{p pos:Pos}(hg:Gl X "enumerate")(hm:X.mg "enumerate" = none)(ha:PA X [a] ta)(hK:X.K=K:=by rfl)(hs:starEach [a] X.env=[(false,eval a X.env)]:=by rfl) :
  PI X (.Tuple elts x1 tp) (.Call (.Name "enumerate" p) [a] [] pos) (zzA (SqT K) ta):=by
 subst hK;intro pins s σ H R I h;refine Call_ (zeu I hg hm zl4 (ya7 (thn (ha pos pins s σ H _ I h) fun us s1 ⟨vs,H1,I1,r1,q1⟩=>?_) hs rfl));obtain ⟨b,e,⟨xs,hq⟩,q⟩:=q1;subst e
 cases r1 with
 | cons r rr =>
  cases rr;cases r;obtain ⟨its,rv,pl,hz⟩:=I1.tuple hq;refine zgz (show s1.heap.IsTuple b its.toArray from pl) fun h' he hi hz' k=>wpAny_pyIter_enum he ?_
  refine ⟨s1.heap.objs.size+1,[s1.heap.objs.size+1,s1.heap.objs.size],_,_,H1,rfl,I1.kept (t':=s1.toks) k,zjx b _ _ (Nat.succ_ne_self _),⟨⟨_,he⟩,hi⟩,fun c hb=>?_,q⟩;simp only [yau,ya4,ycu] at hb
  have hc:s1.heap.objs.size<=c:=by rcases hb with rfl | rfl<;>omega
  exact I1.fpOk hc (I1.hok.fresh hc)
end
end L2
namespace S2
open PySem PySem.Spec PyProof.Rows L2
structure ItOk(cl:Cf)(w:Wd)(J:It)(ds:List D):Prop where
 go:∀w',Fut w w'->∀i,i<ds.length->J.go i w'.H
 stop:∀w',Fut w w'->J.stop ds.length w'.H
 yld:∀w',Fut w w'->∀i d x H',ds[i]?=some d->J.yld i w'.H x H'->∃w'',w''.H=H'/\Grow w' w''/\Shd cl w'' x d
noncomputable abbrev Fi:=Env->Sto->Out (List D)
noncomputable def tI(cl:Cf)(E:St->XK)(f:Fi):TI:=fun σ H R'=>∃B w ρ S,w.H=H/\Rel cl B σ w ρ S/\match f ρ S with
 | .ok ds S'=>∀J w',Rel cl B σ w' ρ S'->Fut w w'->ItOk cl w' J ds->R' J w'.H
 | .exc c S'=>∀w',Rel cl B σ w' ρ S'->Fut w w'->E σ (.ref (cl c)) none w'.H
 | .bad=>False
def PI.imp(h:PI X tg it t)(i:∀σ H Q,t' σ H Q->t σ H Q):PI X tg it t':=fun pins s σ H Q I q=>h pins s σ H Q I (i _ _ _ q)
inductive Tg where | one (i:Nat) | tup (is:List Nat)
noncomputable def zes:List Nat->List D->Env->Option Env
 | [],[],ρ=>some ρ
 | i::is,d::ds,ρ=>zes is ds (ρ.set i (some (false,d)))
 | _,_,_=>none
noncomputable def Tg.put:Tg->Env->D->Option Env
 | .one i,ρ,d=>some (ρ.set i (some (false,d)))
 | .tup is,ρ,.tup ds=>zes is ds ρ
 | .tup _,_,_=>none
noncomputable def tG(cl:Cf)(n:Nat)(tg:Tg):TG:=fun v σ H Q=>∃B w ρ S d ρ',w.H=H/\Rel cl B σ w ρ S/\Shd cl w v d/\tg.put ρ d=some ρ'/\∀σ',σ'.length=σ.length->σ'.drop n=σ.drop n->Rel cl B σ' w ρ' S->Q σ' w.H
def PG.imp(h:PG X tg t)(i:∀v σ H Q,t' v σ H Q->t v σ H Q):PG X tg t':=fun pins s σ H v u Q I r q=>h pins s σ H v u Q I r (i _ _ _ _ q)
def zfx(tg:Tg)(body:Fs):List D->Env->Sto->Fo
 | [],ρ,S=>.nx ρ S
 | d::ds,ρ,S=>match tg.put ρ d with
  | none=>.bad
  | some ρ1=>match body ρ1 S with
   | .nx ρ' S'=>zfx tg body ds ρ' S'
   | .ct ρ' S'=>zfx tg body ds ρ' S'
   | .bk ρ' S'=>.nx ρ' S'
   | o=>o
noncomputable def zgW(tg:Tg)(it:Fi)(body:Fs):Fs:=fun ρ S=>match it ρ S with
 | .ok ds S'=>zfx tg body ds ρ S'
 | .exc c S'=>.ex c ρ S'
 | .bad=>.bad
def zcQ(c:Fe)(body:Fs):Nat->Env->Sto->Fo
 | 0,_,_=>.bad
 | n+1,ρ,S=>match c ρ S with
  | .ok d S'=>(match isB d with
   | some true=>(match body ρ S' with
    | .nx ρ' S'=>zcQ c body n ρ' S'
    | .ct ρ' S'=>zcQ c body n ρ' S'
    | .bk ρ' S'=>.nx ρ' S'
    | o=>o)
   | some false=>.nx ρ S'
   | none=>.bad)
  | .exc x S'=>.ex x ρ S'
  | .bad=>.bad
section
variable{X:Cx}{cl:Cf}{E:St->XK}{own:Bool}{e iter tg:Expr}{body:List Stmt}{fb:Fs}{fi:Fi}{fc:Fe}{t:Tg}{pos:Pos}
theorem zji{α:Type}{n i:Nat}{l:List α}{a:α}(h:i<n):(l.set i a).drop n=l.drop n:=by
 refine ybz fun k=>?_
 rw [ybj,ybj,yaT (by omega)]
def zrD(hin:i<n)(hN:X.N.Nodup)(hi:X.N[i]?=some x)(hx:Loc X.env.scope x)(hf:X.fn x=true\/X.env.scope.names.lookup x=some .local):PG X (.Name x pos) (tG cl n (.one i)):=by
 refine PG.imp (ze2 hN hi hx hf) ?_;rintro v σ H Q ⟨B,w,ρ,S,d,ρ',rfl,R,h,hp,q⟩;cases hp;exact q _ (yaL ..) (zji hin) (R.put h)
noncomputable def tGs(cl:Cf)(n:Nat)(is:List Nat):TGs:=fun vs σ H Q=>∃B w ρ S ds ρ',w.H=H/\Rel cl B σ w ρ S/\Shds cl w vs ds/\zes is ds ρ=some ρ'/\∀σ',σ'.length=σ.length->σ'.drop n=σ.drop n->Rel cl B σ' w ρ' S->Q σ' w.H
def zpg:PGs X [] (tGs cl n []):=by
 intro pins s σ H vs us Q I r h;obtain ⟨B,w,ρ,S,ds,ρ',rfl,R,hs,hp,q⟩:=h
 cases hs with
 | nil =>
  cases hp;exact zkY pins s σ w.H [] us Q I r ⟨rfl,q σ rfl rfl R⟩
 | cons _ _=>cases hp
def zmu(hin:i<n)(hN:X.N.Nodup)(hi:X.N[i]?=some x)(hx:Loc X.env.scope x)(hf:X.fn x=true\/X.env.scope.names.lookup x=some .local)(h2:PGs X es (tGs cl n is)):PGs X (.Name x pos::es) (tGs cl n (i::is)):=by
 intro pins s σ H vs us Q I r h;obtain ⟨B,w,ρ,S,ds,ρ',rfl,R,hs,hp,q⟩:=h;refine zeG (ze2 hN hi hx hf) h2 rfl pins s σ w.H vs us Q I r ?_
 cases hs with
 | nil=>cases hp
 | cons h t =>
  rename_i v d vs ds;exact ⟨v,vs,rfl,B,w,_,S,ds,ρ',rfl,R.put h,t,hp,fun σ' e1 e2=>q σ' (e1.trans (yaL ..)) (e2.trans (zji hin))⟩
def zrC(hc:X.calm=true)(h:PGs X es (tGs cl n is))(hn:(assignEach es X.env).length=is.length)(hst:(assignEach es X.env).findIdx? (·.1)=none):PG X (.Tuple es k pos) (tG cl n (.tup is)):=by
 refine PG.imp (zog hc h hn hst) ?_;rintro v σ H Q ⟨B,w,ρ,S,d,ρ',rfl,R,h,hp,q⟩
 cases h with
 | tup e k r =>
  have hl:∀(is:List Nat) (ds:List D) (ρ ρ':Env),zes is ds ρ=some ρ'->ds.length=is.length:=by
   intro is
   induction is with
   | nil=>intro ds ρ ρ' h;cases ds with
    | nil=>rfl
    | cons _ _=>cases h
   | cons i is ih=>intro ds ρ ρ' h;cases ds with
    | nil=>cases h
    | cons d ds=>rw [yan,yan,ih ds _ _ h]
  rename_i a xs ds;refine ⟨a,xs,rfl,SqT.of e,by rw [r.length];exact hl is ds ρ ρ' hp,B,w,ρ,S,ds,ρ',rfl,R,r,hp,q⟩
 | _=>cases hp
theorem zrr(hp:PassesOwn (model X.prog X.w) X.A X.env X.xe)(hc:X.calm=true)(hi:PI X tg iter (tI cl E fi))(hg:PG X tg (tG cl n t))(hb:PSs X body (tS cl E own fb))(hs:∀x,foldedSetIterable iter X.env x=pure x):PS X (.For tg iter body [] pos) (tS cl E own (zgW t fi fb)):=by
 refine PS.imp (zr5 hp hc hi hg hb hs) ?_;rintro De σ H ⟨B,w,ρ,S,rfl,R,q⟩;refine ⟨B,w,ρ,S,rfl,R,?_⟩;unfold zgW at q
 cases hf:fi ρ S with
 | bad=>rwa [hf] at q
 | exc c S1=>rw [hf] at q;exact fun w' R' F'=>q σ w' R' F'
 | ok ds S1 =>
  rw [hf] at q;intro J w0 R0 F0 hJ;dsimp only at q;refine ⟨fun i m σ' H'=>m=ds.length-i/\i<=ds.length/\∃w1 ρ1 S2,w1.H=H'/\Fut w0 w1/\Rel cl B σ' w1 ρ1 S2/\zgC cl E own B w1 De (zfx t fb (ds.drop i) ρ1 S2),⟨ds.length,by simp,yba _,w0,ρ,S1,rfl,Fut.refl _,R0,by rw [List.drop_zero];exact zgC.up F0 q⟩,?_⟩;rintro i m σ1 H1 ⟨rfl,hi,w1,ρ1,S2,rfl,F1,R1,q1⟩
  by_cases hlt:i<ds.length
  ·obtain ⟨d,hd⟩:∃d,ds[i]?=some d:=⟨ds[i],yab hlt⟩
   have hdr:ds.drop i=d::ds.drop (i+1):=by
    rw [yb6 hlt];rw [yab hlt] at hd;cases hd;rfl
   rw [hdr] at q1;unfold zfx at q1
   cases hp1:t.put ρ1 d with
   | none=>rw [hp1] at q1;exact q1.elim
   | some ρ2 =>
    rw [hp1] at q1;dsimp only at q1;refine .inr ⟨hJ.go w1 F1 i hlt,fun σ' H'=>i+1<=ds.length/\∃w1 ρ1 S2,w1.H=H'/\Fut w0 w1/\Rel cl B σ' w1 ρ1 S2/\zgC cl E own B w1 De (zfx t fb (ds.drop (i+1)) ρ1 S2),fun σ' H' h'=>⟨ds.length-(i+1),by omega,rfl,h'.1,h'.2⟩,fun x H' y=>?_⟩;obtain ⟨w2,rfl,g2,s2⟩:=hJ.yld w1 F1 i d x H' hd y;refine ⟨B,w2,ρ1,S2,d,ρ2,rfl,R1.grow g2,s2,hp1,fun σ2 _ _ R2=>⟨B,w2,ρ2,S2,rfl,R2,?_⟩⟩;have q2:=zgC.up g2.fut q1
    cases hb:fb ρ2 S2 with
    | bad=>rwa [hb] at q2
    | rt d S3=>rwa [hb] at q2
    | ex c ρ3 S3=>rwa [hb] at q2
    | bk ρ3 S3=>rw [hb] at q2;exact fun σ3 w3 R3 F3=>q2 σ3 w3 R3 F3
    | nx ρ3 S3=>rw [hb] at q2;exact fun σ3 w3 R3 F3=>⟨hlt,w3,ρ3,S3,rfl,F1.trans (g2.fut.trans F3),R3,zgC.up F3 q2⟩
    | ct ρ3 S3=>rw [hb] at q2;exact fun σ3 w3 R3 F3=>⟨hlt,w3,ρ3,S3,rfl,F1.trans (g2.fut.trans F3),R3,zgC.up F3 q2⟩
  ·have e:i=ds.length:=by omega
   subst e;rw [List.drop_length] at q1;exact .inl ⟨hJ.stop w1 F1,q1 σ1 w1 R1 (Fut.refl _)⟩
def zgV(n:Nat)(c:Fe)(body:Fs):Fs:=zcQ c body n
def zmr(n:Nat)(hp:PassesOwn (model X.prog X.w) X.A X.env X.xe)(hc:PT X c (tTr cl E fc))(hb:PSs X body (tS cl E own fb)):PS X (.While c body [] pos) (tS cl E own (zgV n fc fb)):=by
 refine PS.imp (zmK hp hc hb) ?_;rintro De σ H ⟨B,w,ρ,S,rfl,R,q⟩;refine ⟨fun m σ' H'=>∃w1 ρ1 S2,w1.H=H'/\Fut w w1/\Rel cl B σ' w1 ρ1 S2/\zgC cl E own B w1 De (zcQ fc fb m ρ1 S2),⟨n,w,ρ,S,rfl,Fut.refl _,R,q⟩,?_⟩;rintro m σ1 H1 ⟨w1,ρ1,S1,rfl,F1,R1,q1⟩
 cases m with
 | zero=>exact q1.elim
 | succ m =>
  unfold zcQ at q1;refine ⟨B,w1,ρ1,S1,rfl,R1,?_⟩
  cases hg:fc ρ1 S1 with
  | bad=>rwa [hg] at q1
  | exc c S2=>rw [hg] at q1;exact fun w' R' F'=>q1 σ1 w' R' F'
  | ok d S2 =>
   rw [hg] at q1;dsimp only at q1 ⊢
   cases hb:isB d with
   | none=>rw [hb] at q1;exact q1.elim
   | some b =>
    rw [hb] at q1;intro w2 R2 F2
    cases b with
    | false=>exact znn (q1 σ1 w2 R2 F2)
    | true =>
     refine znm ⟨fun σ' H'=>∃w1 ρ1 S2,w1.H=H'/\Fut w w1/\Rel cl B σ' w1 ρ1 S2/\zgC cl E own B w1 De (zcQ fc fb m ρ1 S2),fun σ' H' h'=>⟨m,ybF _,h'⟩,B,w2,ρ1,S2,rfl,R2,?_⟩;have q2:=zgC.up F2 q1;dsimp only at q2
     cases hx:fb ρ1 S2 with
     | bad=>rwa [hx] at q2
     | rt d S3=>rwa [hx] at q2
     | ex c ρ3 S3=>rwa [hx] at q2
     | bk ρ3 S3=>rw [hx] at q2;exact fun σ3 w3 R3 F3=>q2 σ3 w3 R3 F3
     | nx ρ3 S3=>rw [hx] at q2;exact fun σ3 w3 R3 F3=>⟨w3,ρ3,S3,rfl,F1.trans (F2.trans F3),R3,zgC.up F3 q2⟩
     | ct ρ3 S3=>rw [hx] at q2;exact fun σ3 w3 R3 F3=>⟨w3,ρ3,S3,rfl,F1.trans (F2.trans F3),R3,zgC.up F3 q2⟩
def zjh(f:Fe):Fi:=fun ρ S=>(f ρ S).bind fun d S1=>match d with | .lst l=>.ok l S1 | _=>.bad
def zim(f:Fe):Fi:=fun ρ S=>(f ρ S).bind fun d S1=>match d with | .tup l=>.ok l S1 | _=>.bad
theorem zkC(he:PE X e (tE cl E fc)):PI X tg e (tI cl E (zjh fc)):=by
 refine PI.imp (zpC he) ?_;rintro σ H Q ⟨B,w,ρ,S,rfl,R,q⟩;refine ⟨B,w,ρ,S,rfl,R,?_⟩;unfold zjh at q
 cases hf:fc ρ S with
 | bad=>rwa [hf] at q
 | exc c S1=>rwa [hf] at q
 | ok d S1 =>
  rw [hf] at q;intro v w' R' F' h';dsimp only [Out.bind] at q
  cases h' with
  | lst e k r =>
   rename_i a xs ds;refine ⟨a,rfl,⟨xs,SqL.of e⟩,q _ w' R' F' ?_⟩;have hl:=r.length;refine ⟨fun w1 F1 i hi=>⟨xs,xs[i]'(by omega),SqL.of (F1.keep _ _ e k).1,yab (by omega)⟩,fun w1 F1=>⟨xs,SqL.of (F1.keep _ _ e k).1,by omega⟩,fun w1 F1 i d x H1 hd y=>?_⟩;obtain ⟨rfl,hy⟩:=y;have hx:=hy xs (SqL.of (F1.keep _ _ e k).1);obtain ⟨d',e1,e2⟩:=r.get hx;rw [hd] at e1;cases e1;exact ⟨w1,rfl,Grow.refl _,e2.up F1⟩
  | _=>exact q.elim
def zrz(he:PE X e (tE cl E fc)):PI X tg e (tI cl E (zim fc)):=by
 refine PI.imp (zr7 he) ?_;rintro σ H Q ⟨B,w,ρ,S,rfl,R,q⟩;refine ⟨B,w,ρ,S,rfl,R,?_⟩;unfold zim at q
 cases hf:fc ρ S with
 | bad=>rwa [hf] at q
 | exc c S1=>rwa [hf] at q
 | ok d S1 =>
  rw [hf] at q;intro v w' R' F' h';dsimp only [Out.bind] at q
  cases h' with
  | tup e k r =>
   rename_i a xs ds;refine ⟨a,rfl,⟨xs,SqT.of e⟩,q _ w' R' F' ?_⟩;have hl:=r.length;refine ⟨fun w1 F1 i hi=>⟨xs,xs[i]'(by omega),SqT.of (F1.keep _ _ e k).1,yab (by omega)⟩,fun w1 F1=>⟨xs,SqT.of (F1.keep _ _ e k).1,by omega⟩,fun w1 F1 i d x H1 hd y=>?_⟩;obtain ⟨rfl,hy⟩:=y;have hx:=hy xs (SqT.of (F1.keep _ _ e k).1);obtain ⟨d',e1,e2⟩:=r.get hx;rw [hd] at e1;cases e1;exact ⟨w1,rfl,Grow.refl _,e2.up F1⟩
  | _=>exact q.elim
noncomputable def zaD(lo hi:Int):List D:=(List.range (hi-lo).toNat).map fun (i:Nat)=>.int (lo+i)
def zeC(f:Fe):Fi:=fun ρ S=>(zal [f] ρ S).bind fun ds S1=>match ds with | [.int j]=>if -1000000<=j/\j<=1000000 then .ok (zaD 0 j) S1 else .bad | _=>.bad
def zlN(f g:Fe):Fi:=fun ρ S=>(zal [f,g] ρ S).bind fun ds S1=>match ds with | [.int i,.int j]=>if (-1000000<=i/\i<=1000000)/\-1000000<=j/\j<=1000000 then .ok (zaD i j) S1 else .bad | _=>.bad
def zou{w:Wd}{lo hi:Int}{n:Nat}(hn:n=(hi-lo).toNat):ItOk cl w (Itr lo n) (zaD lo hi):=by
 subst hn
 have hl:(zaD lo hi).length=(hi-lo).toNat:=by unfold zaD;rw [yad,ycs]
 refine ⟨fun w1 F1 i h=>by rw [hl] at h;exact h,fun w1 F1=>by rw [hl];exact yaj _,fun w1 F1 i d x H1 hd y=>?_⟩;obtain ⟨rfl,rfl⟩:=y;unfold zaD at hd;rw [yal] at hd
 cases hr:(List.range (hi-lo).toNat)[i]? with
 | none=>rw [hr] at hd;cases hd
 | some j =>
  rw [hr] at hd;have:=(yai.mp hr).2;rw [List.getElem_range] at this;subst this;cases hd;exact ⟨w1,rfl,Grow.refl _,.int _⟩
theorem zpd(hg:Gl X "range")(hm:X.mg "range" = none)(ha:PA X [e] (tAs cl E [fc]))(hs:starEach [e] X.env=[(false,eval e X.env)]):PI X tg (.Call (.Name "range" p) [e] [] pos) (tI cl E (zeC fc)):=by
 refine PI.imp (zkX hg hm ha hs) ?_;rintro σ H Q ⟨B,w,ρ,S,rfl,R,q⟩;refine ⟨B,w,ρ,S,rfl,R,?_⟩;unfold zeC at q
 cases hf:zal [fc] ρ S with
 | bad=>rwa [hf] at q
 | exc c S1=>rwa [hf] at q
 | ok ds S1 =>
  rw [hf] at q;intro vs w' R' F' h';dsimp only [Out.bind] at q;split at q
  ·rename_i ds' S' hm';split at hm'
   ·rename_i j;split at hm'
    ·rename_i hb;cases hm'
     cases h' with
     | cons h1 h2 =>
      cases h1;cases h2;exact ⟨j,rfl,by omega,by omega,q _ w' R' F' (zou (by omega))⟩
    ·cases hm'
   ·cases hm'
  ·rename_i hm';split at hm'<;>first | (split at hm'<;>cases hm') | cases hm'
  ·exact q.elim
theorem zpc(hg:Gl X "range")(hm:X.mg "range" = none)(ha:PA X [a,e] (tAs cl E [fa,fc]))(hs:starEach [a,e] X.env=[(false,eval a X.env),(false,eval e X.env)])(hs2:starEach [e] X.env=[(false,eval e X.env)]):PI X tg (.Call (.Name "range" p) [a,e] [] pos) (tI cl E (zlN fa fc)):=by
 refine PI.imp (zkW hg hm ha hs hs2) ?_;rintro σ H Q ⟨B,w,ρ,S,rfl,R,q⟩;refine ⟨B,w,ρ,S,rfl,R,?_⟩;unfold zlN at q
 cases hf:zal [fa,fc] ρ S with
 | bad=>rwa [hf] at q
 | exc c S1=>rwa [hf] at q
 | ok ds S1 =>
  rw [hf] at q;intro vs w' R' F' h';dsimp only [Out.bind] at q;split at q
  ·rename_i ds' S' hm';split at hm'
   ·rename_i i j;split at hm'
    ·rename_i hb;cases hm'
     cases h' with
     | cons h1 h2 =>
      cases h1
      cases h2 with
      | cons h2 h3 =>
       cases h2;cases h3;exact ⟨i,j,rfl,by omega,q _ w' R' F' (zou rfl)⟩
    ·cases hm'
   ·cases hm'
  ·rename_i hm';split at hm'<;>first | (split at hm'<;>cases hm') | cases hm'
  ·exact q.elim
end
noncomputable def ztp(ρ:Env)(i:Nat):Option (Bool×D):=match ρ[i]? with | some (some (false,d))=>some (false,d) | _=>none
def zbT(n:Nat)(caps:List Nat)(ρ:Env):Env:=List.replicate n none++caps.map (ztp ρ)
def zdE:Fe:=zae (.bl true)
def zbn(tg:Tg)(c elt:Fe)(ρ0:Env):List D->Sto->Out (List D)
 | [],S=>.ok [] S
 | d::ds,S=>match tg.put ρ0 d with
  | none=>.bad
  | some ρ1=>(c ρ1 S).bind fun b S1=>match isB b with
   | some true=>(elt ρ1 S1).bind fun y S2=>(zbn tg c elt ρ0 ds S2).bind fun ys S3=>.ok (y::ys) S3
   | some false=>zbn tg c elt ρ0 ds S1
   | none=>.bad
def zca(n:Nat)(tg:Tg)(it:Fi)(c elt:Fe)(caps:List Nat):Fe:=fun ρ S=>(it ρ S).bind fun ds S1=>match zbn tg c elt (zbT n caps ρ) ds S1 with
 | .ok ys S2=>if zaH ys.length then .ok (.lst ys) S2 else .bad
 | _=>.bad
noncomputable abbrev noE:St->XK:=fun _ _ _ _=>False
section
variable{cl:Cf}
theorem zlD{caps:List (Str×Nat)}(R:Rel cl B σ w ρ S)(W1:World' cl B1 w1 S1)(F1:Fut w w1){σ':St}(hσ:σ'.length=n+caps.length)(hc:σ'.drop n=caps.map fun p=>(σ[p.2]?).join) :
  Rel cl B1 σ' w1 (zbT n (caps.map (·.2)) ρ) S1 where
 wd:=W1
 len:=by unfold zbT;rw [hσ,yam,yaG,yad,yad]
 slots:=fun i o d h=>by
  unfold zbT at h
  by_cases hi:i<n
  ·rw [yay (by rw [yaG];exact hi),ya9] at h
   split at h<;>cases h
  ·rw [yas (by rw [yaG];omega),yaG,yaO,yal] at h
   cases hp:caps[i-n]? with
   | none=>rw [hp] at h;cases h
   | some p =>
    rw [hp] at h;have h':ztp ρ p.2=some (o,d):=Option.some.inj h;unfold ztp at h';split at h'
    ·rename_i d' hd;cases h';obtain ⟨v,e,x⟩:=R.slots p.2 false d hd;refine ⟨v,?_,Shd.up F1 x⟩;have:=congrArg (fun l=>l[i-n]?) hc;rw [ybj,yal,hp] at this;rw [show n+(i-n)=i by omega] at this;rw [this];show some ((σ[p.2]?).join)=_;rw [e];rfl
    ·cases h'
end
section
variable{X:Cx}{cl:Cf}{E:St->XK}
theorem zoH(q:tN cl E (zca n t fi fc fe (caps.map (·.2))) σ H Q) :
  ziC (tI cl E fi) (tG cl n t) (tTr cl noE fc) (tE cl noE fe) n caps σ H Q:=by
 obtain ⟨B,w,ρ,S,rfl,R,q⟩:=q;refine ⟨B,w,ρ,S,rfl,R,?_⟩;unfold zca at q
 cases hf:fi ρ S with
 | bad=>rwa [hf] at q
 | exc c S1=>rwa [hf] at q
 | ok ds S1 =>
  rw [hf] at q;dsimp only [Out.bind] at q;intro J w0 R0 F0 hJ
  cases hcd:zbn t fc fe (zbT n (caps.map (·.2)) ρ) ds S1 with
  | bad=>rw [hcd] at q;exact q.elim
  | exc _ _=>rw [hcd] at q;exact q.elim
  | ok all Sf =>
   rw [hcd] at q;dsimp only at q
   cases hz:zaH all.length with
   | false=>rw [hz,if_neg (by decide)] at q;exact q.elim
   | true =>
    rw [hz,if_pos rfl] at q;dsimp only at q;refine ⟨fun i m ys σ' H'=>m=ds.length-i/\i<=ds.length/\σ'.length=n+caps.length/\σ'.drop n=(caps.map fun p=>(σ[p.2]?).join)/\∃w1 S2 es zbW,w1.H=H'/\Fut w0.inn w1/\World' cl w0.base w1 S2/\Shds cl w1 ys es/\zbn t fc fe (zbT n (caps.map (·.2)) ρ) (ds.drop i) S2=.ok zbW Sf/\es++zbW=all,⟨ds.length,by simp,yba _,by simp [capσ],by simp [capσ],w0.inn,S1,[],all,rfl,Fut.refl _,R0.wd.enter,.nil,by rw [List.drop_zero];exact hcd,rfl⟩,?_⟩;rintro i m ys σ1 H1 ⟨rfl,hi,hl1,hd1,w1,S2,es,zbW,rfl,F1,W1,sh,hrest,hall⟩;refine ⟨?_,?_⟩
    ·rw [sh.length];refine yak ?_ (zaT hz);rw [<-hall,yam];omega
    have F1':Fut w0 w1:=(zcu w0).trans F1
    by_cases hlt:i<ds.length
    ·obtain ⟨d,hdi⟩:∃d,ds[i]?=some d:=⟨ds[i],yab hlt⟩
     have hdr:ds.drop i=d::ds.drop (i+1):=by
      rw [yb6 hlt];rw [yab hlt] at hdi;cases hdi;rfl
     rw [hdr] at hrest;unfold zbn at hrest;refine .inr ⟨hJ.go w1 F1' i hlt,fun x H' y=>?_⟩;obtain ⟨w2,rfl,g2,s2⟩:=hJ.yld w1 F1' i d x H' hdi y;have R1:Rel cl w0.base σ1 w2 (zbT n (caps.map (·.2)) ρ) S2:=zlD R0 (W1.grow g2) (F1'.trans g2.fut) hl1 hd1
     cases hp:t.put (zbT n (caps.map (·.2)) ρ) d with
     | none=>rw [hp] at hrest;cases hrest
     | some ρ1 =>
      rw [hp] at hrest;dsimp only at hrest;refine ⟨w0.base,w2,_,S2,d,ρ1,rfl,R1,s2,hp,fun σ2 hk1 hk2 R2=>⟨w0.base,w2,ρ1,S2,rfl,R2,?_⟩⟩
      cases hc:fc ρ1 S2 with
      | bad=>rw [hc] at hrest;cases hrest
      | exc _ _=>rw [hc] at hrest;cases hrest
      | ok b S3 =>
       rw [hc] at hrest;dsimp only [Out.bind] at hrest ⊢
       cases hb:isB b with
       | none=>rw [hb] at hrest;cases hrest
       | some bb =>
        rw [hb] at hrest;intro w3 R3 F3
        cases bb with
        | false=>exact znn ⟨ds.length-(i+1),by omega,rfl,hlt,hk1.trans hl1,hk2.trans hd1,w3,S3,es,zbW,rfl,F1.trans (g2.fut.trans F3),R3.wd,sh.up (g2.fut.trans F3),hrest,hall⟩
        | true =>
         refine znm ⟨w0.base,w3,ρ1,S3,rfl,R3,?_⟩;dsimp only at hrest
         cases he:fe ρ1 S3 with
         | bad=>rw [he] at hrest;cases hrest
         | exc _ _=>rw [he] at hrest;cases hrest
         | ok yv S4 =>
          rw [he] at hrest;dsimp only at hrest
          cases hr:zbn t fc fe (zbT n (caps.map (·.2)) ρ) (ds.drop (i+1)) S4 with
          | bad=>rw [hr] at hrest;cases hrest
          | exc _ _=>rw [hr] at hrest;cases hrest
          | ok zs S5 =>
           rw [hr] at hrest;cases hrest;intro v w4 R4 F4 h4;have ff:=g2.fut.trans (F3.trans F4);exact ⟨ds.length-(i+1),by omega,rfl,hlt,hk1.trans hl1,hk2.trans hd1,w4,S4,es++[yv],zs,rfl,F1.trans ff,R4.wd,(sh.up ff).append (.cons h4 .nil),hr,by rw [<-hall,ybP];rfl⟩
    ·have e:i=ds.length:=by omega
     subst e;rw [List.drop_length] at hrest;cases hrest;rw [yaS] at hall;subst hall;refine .inl ⟨hJ.stop w1 F1',fun p hp=>?_⟩;obtain ⟨Rb,Fb⟩:=R0.leave W1 F1;exact q p (.lst ys) (w0.back w1) Rb (F0.trans Fb) hp (.lst (sh.up (zds W1)))
end
end S2
namespace L2
open PySem PySem.Spec PyProof.Rows
def CXE(P:Program)(w:World):CXT:=fun outer H s E e s'=>∃(a:Addr) (cls a0:Value) (H':Hp) (B:Heap),e=.ref a/\Heap.FlyingW B outer a cls a0 s'.heap ∧
 (∀b o,s'.heap.get? b=some o->H' b≠none->B.get? b=some o)/\(∀b o,s.heap.get? b=some o->H b=none->b ∉ frs outer->B.get? b=some o) ∧
 (∀b o,s.heap.get? b=some o->b ∉ frs outer->∃o',B.get? b=some o') ∧
 s'.os=s.os/\AllBare s'.gens/\Un (frs outer) [] H H' s.heap s'.heap/\HOk P w H' s'.heap/\E cls none H'
def zbL.has(x:zbL P w H h a o):∃ob,h.get? a=some ob:=by
 cases o with
 | lst xs=>obtain ⟨_,_,_,_,e⟩:=x;exact ⟨_,e⟩
 | tup xs=>obtain ⟨_,_,_,ob,e,_⟩:=x;exact ⟨_,e⟩
 | dK kvs=>obtain ⟨_,_,_,_,o,_,_,e,_⟩:=x;exact ⟨_,e⟩
 | dT kvs=>obtain ⟨_,_,_,_,o,_,_,e,_⟩:=x;exact ⟨_,e⟩
 | set S n=>obtain ⟨o,_,_,_,e,_⟩:=x;exact ⟨_,e⟩
 | ins C dx fs=>obtain ⟨_,_,_,e,_⟩:=x;exact ⟨_,e⟩
 | own y=>exact x
 | xd fs=>obtain ⟨_,⟨_,_,_,e,_⟩,_⟩:=x;exact ⟨_,e⟩
 | rng lo hi=>obtain ⟨_,_,_,e⟩:=x;exact ⟨_,e⟩
 | frz ob u=>obtain ⟨e,_⟩:=x;exact ⟨_,e⟩
 | tbl ps=>exact ⟨_,(show h.get? a=some _ from x)⟩
 | met f y=>exact ⟨_,(show h.get? a=some _ from x)⟩
 | ext φ=>obtain ⟨_,e,_⟩:=x;exact e
def HOk.same(x:HOk P w H h)(k:∀b u,h.get? b=some u->H b≠none->h'.get? b=some u):HOk P w H h':=fun a o e =>
 (x a o e).stay (fun b u hb q=>k b u q (hb.elim (fun z=>by rw [z,e];exact yaE _) (fun z=>by rw [z];exact yaE _))) (fun _ q=>q) fun _ _ q=>q
section
variable{X:Cx}{pins:Z3}{σ:St}{H:Hp}{s:Shared}{M:Model}
def zny(l:List Env):∀env∈l,∀b,env.frame=some b->b∈frs l:=fun env he b hb=>ybV.mpr ⟨env,he,hb⟩
def zjT(I:Inv X pins σ H s)(hx:X.ex=[])(hs:X.stack=X.env::X.outer)(hf:X.env.frame=some X.env.locals)(mk:Heap.MadeExcOf s.heap h' e cls vs)(q:E cls none H) :
  wpAny M X.A (leaving X.env (.ref e)) (fun _ s''=>CXE X.prog X.w X.outer X.H₀ X.s₀ E (.ref e) s'') Er { s with heap:=h' }:=by
 have hfr:X.A.frames=some (X.env::X.outer):=by rw [<-hs];exact I.ok.frames
 have hst:s.heap.FunFrames X.base (X.env::X.outer):=by rw [<-hs];exact I.stack
 refine wpAny_leaves_madeW (base:=PySem.W.hideAll s.heap (frs (X.env::X.outer))) hfr hf (fun b o z=>PySem.W.of_hideAll _ z) (PySem.W.funFrames_hide hst (zny _)) mk fun h2 t fl tup _ up=>?_
 have inB:∀b o,s.heap.get? b=some o->b ∉ frs (X.env::X.outer)->(PySem.W.hideAll s.heap (frs (X.env::X.outer))).get? b=some o:=fun b o z n=>PySem.W.hideAll_get _ z n
 have sub:∀b,b∈frs (X.env::X.outer)->b=X.env.locals\/b∈X.fs:=fun b hb=>by
  rw [<-hs] at hb;exact yau.mp (I.stkSub b hb)
 have fre:∀b,b∈frs (X.env::X.outer)->H b=none:=fun b hb=>by rw [<-hs] at hb;exact I.stkFree b hb
 have old:∀b o,X.s₀.heap.get? b=some o->b ∉ frs X.outer->b ∉ frs (X.env::X.outer):=fun b o z n hb=>by
  rcases sub b hb with r | r
  ·exact absurd (yap (yar z) I.ok.above) (by rw [r];exact ya5 _)
  ·exact n r
 have nx:∀b:Addr,b ∉ X.ex:=fun b z=>by rw [hx] at z;cases z
 have trk:∀b o,s.heap.get? b=some o->H b≠none->h2.get? b=some o:=fun b o z n=>fl.1 b o (inB b o z fun hb=>n (fre b hb))
 have hok2:HOk X.prog X.w H h2:=I.hok.same trk
 have slt:∀b o,s.heap.get? b=some o->b∈frs X.stack->∃sl,h2.get? b=some { o with slots:=sl }:=fun b o z hb=>by
  obtain ⟨_,o',z',hd⟩:=I.stack.mem hb;rw [z] at z';cases z';exact up b o (mk.keeps b o z) hd
 have un2:Un (frs X.stack) [] H H s.heap h2:=⟨fun b o z n hb _=>fl.1 b o (inB b o z (by rw [<-hs];exact hb)),fun b o z n hb _=>slt b o z hb,fun b o z n _=>n,
  fun b o z _=>by
   by_cases hb:b∈frs X.stack
   ·obtain ⟨sl,r⟩:=slt b o z hb;exact ⟨_,r⟩
   ·exact ⟨o,fl.1 b o (inB b o z (by rw [<-hs];exact hb))⟩,
  fun _ _ z=>z,fun _ _ _ z=>z,fun _ ps z=>⟨#[],by rw [z,Array.append_empty]⟩⟩
 have J:=I.call (g':=s.gens) (t':=s.toks) (d':=s.drawn) (ch:=[]) un2 hok2 I.bare (fun b z=>absurd z (by simp));refine ⟨e,cls,.ref t,H,_,rfl,fl,fun b o z n=>?_,fun b o z n hb=>?_,fun b o z hb=>?_,J.os,J.bare,?_,J.hok,q⟩
 ·cases k:H b with
  | none=>exact absurd k n
  | some u =>
   obtain ⟨o',z'⟩:=(I.hok b u k).has;have:=trk b o' z' n;rw [show h2.get? b=some o from z] at this;cases this;exact inB b o z' fun hb=>n (fre b hb)
 ·exact inB b o (I.base.keep b o z n hb (nx b)) (old b o z hb)
 ·obtain ⟨o',z'⟩:=I.base.there b o z (nx b);exact ⟨o',inB b o' z' (old b o z hb)⟩
 ·have:=J.base;rwa [hx] at this
def znf(I:Inv X pins σ H s)(hx:X.ex=[])(hs:X.stack=X.env::X.outer)(hf:X.env.frame=some X.env.locals)(q:CXE X.prog X.w X.stack H s E e s') :
  wpAny M X.A (leaving X.env e) (fun _ s''=>CXE X.prog X.w X.outer X.H₀ X.s₀ E e s'') Er s':=by
 have hfr:X.A.frames=some (X.env::X.outer):=by rw [<-hs];exact I.ok.frames
 obtain ⟨a,cls,a0,H',B,rfl,fl,c1,c2,c3,os,bare,un,hok,q⟩:=q
 have fl':Heap.FlyingW B (X.env::X.outer) a cls a0 s'.heap:=by rw [<-hs];exact fl
 refine wpAny_leaves_onW hfr hf fl' fun h2 fl2 up=>?_
 have sub:∀b,b∈frs X.stack->b=X.env.locals\/b∈X.fs:=fun b hb=>yau.mp (I.stkSub b hb)
 have old:∀b o,X.s₀.heap.get? b=some o->b ∉ frs X.outer->b ∉ frs X.stack:=fun b o z n hb=>by
  rcases sub b hb with r | r
  ·exact absurd (yap (yar z) I.ok.above) (by rw [r];exact ya5 _)
  ·exact n r
 have nx:∀b:Addr,b ∉ X.ex:=fun b z=>by rw [hx] at z;cases z
 have trk:∀b o,s'.heap.get? b=some o->H' b≠none->h2.get? b=some o:=fun b o z n=>fl2.1 b o (c1 b o z n)
 have hok2:HOk X.prog X.w H' h2:=hok.same trk
 have slt:∀b o,s.heap.get? b=some o->H b=none->b∈frs X.stack->∃sl,h2.get? b=some { o with slots:=sl }:=fun b o z n hb=>by
  obtain ⟨_,o',z',hd⟩:=I.stack.mem hb;rw [z] at z';cases z';obtain ⟨sl,r⟩:=un.slot b o z n hb (by simp);obtain ⟨sl',r'⟩:=up b ({ o with slots:=sl }:Obj) r hd;exact ⟨sl',r'⟩
 have un2:Un (frs X.stack) [] H H' s.heap h2:=⟨fun b o z n hb _=>fl2.1 b o (c2 b o z n hb),fun b o z n hb _=>slt b o z n hb,un.free,
  fun b o z _=>by
   by_cases hb:b∈frs X.stack
   ·obtain ⟨sl,r⟩:=slt b o z (I.stkFree b hb) hb;exact ⟨_,r⟩
   ·obtain ⟨o',r⟩:=c3 b o z hb
    exact ⟨o',fl2.1 b o' r⟩,
  un.tups,un.frzs,un.tbls⟩
 have J:=I.call (g':=s'.gens) (t':=s'.toks) (d':=s'.drawn) (ch:=[]) un2 hok2 bare (fun b z=>absurd z (by simp));refine ⟨a,cls,a0,H',B,rfl,fl2,fun b o z n=>?_,fun b o z n hb=>?_,fun b o z hb=>?_,os.trans I.os,bare,?_,J.hok,q⟩
 ·cases k:H' b with
  | none=>exact absurd k n
  | some u =>
   obtain ⟨o',z'⟩:=(hok b u k).has;have:=trk b o' z' n;rw [show h2.get? b=some o from z] at this;cases this;exact c1 b o z' n
 ·exact c2 b o (I.base.keep b o z n hb (nx b)) (I.base.free b o z n (nx b)) (old b o z hb)
 ·obtain ⟨o',z'⟩:=I.base.there b o z (nx b);exact c3 b o' z' (old b o z hb)
 ·have:=J.base;rwa [hx] at this
end
def zsi{P:Program}{K:PySem.W.Frag} :
  ztB (CXE P w) (zlQ (CXE P w) P w K mg base N qual scope f cd A outer s H E) E:=fun pins σ H1 s1 e s' I q =>
 znf (X:=zlQ (CXE P w) P w K mg base N qual scope f cd A outer s H E) I rfl rfl rfl q
def zqr{K:PySem.W.Frag}{h:Heap}(k:K.In h)(z:PySem.W.excIn K C bmB nid=true) :
  ∃bm N nm qn bs hd sn sub ab col dd c0 c1 c2 c3 c5 mN,h.get? C=some (excClassObj nm qn C N bs bm hd sn sub ab col dd c0 c1 c2 c3 c5 nid)/\h.Ns N mN/\mN "__init__" = none/\OwnTail h bmB bm:=by
 unfold PySem.W.excIn at z;split at z
 case h_2=>cases z
 case h_1 dd cd sl ho =>
  split at z
  case h_2=>cases z
  case h_1 D bm c0 c1 c2 c3 n c5 e1 e2 =>
   simp only [yac,ycq,yb1] at z;obtain ⟨⟨⟨⟨⟨z1,z2⟩,z3⟩,z4⟩,z5⟩,z6⟩:=z;subst z1 z2
   have hsl:sl=#[c0,c1,c2,c3,some (.builtin n),c5]:=by
    cases sl with
    | mk l=>exact congrArg Array.mk e2
   have hcd:cd={ cd with mro:=.ref D::bm,hasDel:=false }:=by
    cases cd;simp only at e1 z3;simp only [e1,z3]
   rw [hsl,hcd] at ho;exact ⟨bm,cd.ns,cd.name,_,cd.bases,_,_,_,_,_,dd,c0,c1,c2,c3,c5,_,k _ _ ho,.of_isNs (PySem.W.isNs_of_in k z5),PySem.W.nsMap_none_of_in k z5 z6,PySem.W.tail_of_in k z4⟩
noncomputable def ztA(X:Cx)(E:XK):Prop:=∀(C:Addr) (pins:Z3) (σ:St) (H:Hp) (s:Shared) (e:Addr) (h':Heap) (vs:List Value),Inv X pins σ H s->Heap.MadeExcOf s.heap h' e (.ref C) vs->E (.ref C) none H->X.xe (.ref e) { s with heap:=h' }
def zkO{P:Program}{K:PySem.W.Frag} :
  ztA (zlQ (CXE P w) P w K mg base N qual scope f cd A outer s H E) E:=fun C pins σ H1 s1 e h' vs I mk q =>
 zjT (X:=zlQ (CXE P w) P w K mg base N qual scope f cd A outer s H E) I rfl rfl rfl mk q
noncomputable def XP(X:Cx)(pins:Z3)(σ:St)(E:XK)(e:Value)(s':Shared):Prop:=∃H1 s1,Inv X pins σ H1 s1/\CXE X.prog X.w X.stack H1 s1 E e s'
section
variable{X:Cx}{pins:Z3}{σ:St}{H H':Hp}{s s':Shared}{B h2:Heap}{a:Addr}{cls a0:Value}
noncomputable abbrev Cx.inH(X:Cx)(a:Addr):Cx:={ X with A:=X.A.mark (some (.ref a)),calm:=false,xe:=fun _ _=>False }
end
noncomputable def zqR(K:PySem.W.Frag)(C D:Addr):Prop:=(∃bC iC,PySem.W.excIn K C bC iC=true)/\∃cd d cl sl,K.lookup C=some ⟨cl,d,.cls cd,sl⟩/\cd.mro.contains (.ref D)=true
noncomputable def Ends.goes(D:Ends)(i:Nat):Ends:={ nx:=fun σ H=>D.nx (σ.set i none) H,rt:=D.rt,bk:=fun σ H=>D.bk (σ.set i none) H,ct:=fun σ H=>D.ct (σ.set i none) H }
end L2
namespace PySem.W
open PySem
structure ExcCls(K:Frag)(C:Addr):Prop where
 ga:findIn K (.ref C) "__getattribute__" = some (some (.builtin "BaseException.__getattribute__"))
 gt:findIn K (.ref C) "__getattr__" = some none
 cl:findIn K (.ref C) "__class__" = some (some (.builtin "object.__class__"))
 ob:subIn K (.ref C) (.type "object")=some true
 be:subIn K (.ref C) (.type "BaseException")=some true
 is:∃c d cd sl,K.lookup C=some ⟨c,d,.cls cd,sl⟩
end PySem.W
namespace L2
open PySem PySem.Spec PyProof.Rows
open PySem PySem.Spec PyProof.Rows PySem.SeqAt
theorem ziN(ns:List Int):∀j,j<=ns.length->preSum (fun i=>ns.getD i 0) j=(ns.take j).sum
 | 0,_=>by rw [List.take_zero];rfl
 | j+1,h=>by
  have ih:=ziN ns j (by omega);show preSum _ j+ns.getD j 0=_
  have e:ns.take (j+1)=ns.take j++[ns[j]]:=by rw [List.take_add_one,yab (by omega)];rfl
  have e2:ns.getD j 0=ns[j]:=by simp [List.getD,show j<ns.length by omega]
  rw [ih,e,e2,List.sum_append];simp
theorem zg7(ns:List Int)(h:∀n∈ns,0<=n/\n<=1000000):∀j,j<=ns.length->0<=preSum (fun i=>ns.getD i 0) j/\preSum (fun i=>ns.getD i 0) j<=1000000*(j:Int)
 | 0,_=>⟨Int.le_refl _,Int.le_refl _⟩
 | j+1,hj=>by
  have ih:=zg7 ns h j (by omega)
  have e:ns.getD j 0=ns[j]:=by simp [List.getD,show j<ns.length by omega]
  have hb:=h ns[j] (yaQ (by omega));show 0<=preSum _ j+ns.getD j 0/\preSum _ j+ns.getD j 0<=_;rw [e]
  push_cast
  omega
section
variable{X:Cx}
theorem znQ(hc:X.calm=true):zdw X (.builtin "sum") (fun xs H Q=>∃(p:Addr) (ns:List Int),xs=[.ref p]/\SqL X.K H p (ns.map V.int)/\ns.length<=1000/\(∀n∈ns,0<=n/\n<=1000000)/\Q (.int ns.sum) H):=by
 intro pins s σ H xs us Q I r h;obtain ⟨p,ns,rfl,hq,hl1000,hb,q⟩:=h;obtain ⟨u,rfl,rx⟩:=zeP r;cases rx;obtain ⟨its,rv,pl,hz⟩:=I.list hq;have hl:=pl.isList
 have hlt:p<s.heap.objs.size:=by obtain ⟨_,e,_⟩:=hl;exact yar e
 have hn:its.length=ns.length:=by have:=rv.length;rw [yad] at this;exact this.symm
 refine call_sum_walk (ycp hl ?_);refine ⟨s.heap.objs.size,[s.heap.objs.size,p],[s.heap.objs.size],its.toArray.size,_,_,fun i=>ns.getD i 0,rfl,Walks.list (A:=X.A.in1) (I.ok.hd hc) _ p (yax hlt) its.toArray,⟨⟨_,yao _ rfl,rfl,rfl⟩,hl.push _⟩,fun b hm=>?_,fun i v hP=>?_,fun j hj=>?_,fun h' tk t' hk=>?_⟩
 ·show b<(s.heap.push _).objs.size;rw [ya0];simp only [yau,ya4,ycu] at hm
  rcases hm with z | z
  ·rw [z];exact ybF _
  ·rw [z];exact yb0 hlt
 ·have hv:its[i]?=some v:=by simpa using hP
  have hi:i<ns.length:=by rw [<-hn];exact (yai.mp hv).1
  obtain ⟨u,hu,ru⟩:=rv.get (i:=i) (x:=.int ns[i]) (by rw [yal,yab hi];rfl);rw [hv] at hu;cases hu;obtain ⟨t,rfl⟩:=ru;exact ⟨t,by simp [List.getD,hi]⟩
 ·rw [yah,hn] at hj;have h1:=zg7 ns hb (j+1) hj
  have e:ns.getD j 0=ns[j]:=by simp [List.getD,hj]
  have h2:=hb ns[j] (yaQ hj);refine ⟨?_,?_⟩
  ·show InLong (ns.getD j 0);rw [e];exact ⟨by omega,by omega⟩
  ·have:((j+1:Nat):Int)<=1000:=by omega
   exact ⟨by omega,by omega⟩
 ·rw [yah,hn,ziN ns ns.length (yaj _),List.take_length];refine ⟨.int _,H,I.kept (t':=tk) fun b o e=>?_,⟨t',rfl⟩,q⟩;exact hk b o (fun hm=>by rw [yaF.mp hm] at e;exact ya5 _ (yar e)) (yag _ e)
end
end L2
namespace S2
open PySem PySem.Spec PyProof.Rows L2
mutual
def D.py:D->PyData
 | .non=>.none
 | .bl b=>.bool b
 | .int i=>.int i
 | .str x=>.str x
 | .tup l=>.tuple (D.pys l)
 | .lst l=>.list (D.pys l)
 | .scr l=>.list (l.map PyData.int)
 | .dic _=>.none
 | .ref _=>.none
 | .exc _=>.none
def D.pys:List D->List PyData
 | []=>[]
 | d::l=>d.py::D.pys l
end
mutual
def D.fit:Nat->D->Bool
 | _,.non=>true
 | _,.bl _=>true
 | _,.int _=>true
 | _,.str x=>PyData.strOk x
 | 0,.tup _=>false
 | n+1,.tup l=>D.fits n l
 | 0,.lst _=>false
 | n+1,.lst l=>D.fits n l
 | 0,.scr _=>false
 | _+1,.scr _=>true
 | _,.dic _=>false
 | _,.ref _=>false
 | _,.exc _=>false
def D.fits:Nat->List D->Bool
 | _,[]=>true
 | n,d::l=>d.fit n&&D.fits n l
end
theorem D.fits_iff:∀{l:List D},D.fits n l=true↔∀d∈l,d.fit n=true
 | []=>by simp [D.fits]
 | d::l=>by simp [D.fits,D.fits_iff (l:=l)]
theorem zja:∀(l:List Int),PyData.canLayAll0 (l.map PyData.int)=true/\PyData.depthAll (l.map PyData.int)=0
 | []=>⟨rfl,rfl⟩
 | i::l=>by
  obtain ⟨a,b⟩:=zja l;exact ⟨by simp [PyData.canLayAll0,PyData.canLay0,a],by simp [PyData.depthAll,PyData.depth,b]⟩
mutual
theorem D.lay:∀{n:Nat} {d:D},d.fit n=true->d.py.canLay0=true/\d.py.depth<=n
 | _,.non,_=>⟨rfl,yba _⟩
 | _,.bl _,h=>⟨rfl,yba _⟩
 | _,.int _,_=>⟨rfl,yba _⟩
 | _,.str x,h=>⟨by simpa [D.fit,D.py,PyData.canLay0] using h,yba _⟩
 | 0,.tup _,h=>by simp [D.fit] at h
 | 0,.lst _,h=>by simp [D.fit] at h
 | 0,.scr _,h=>by simp [D.fit] at h
 | n+1,.scr l,h=>by
  obtain ⟨a,b⟩:=zja l;exact ⟨by simpa [D.py,PyData.canLay0] using a,by simp only [D.py,PyData.depth];omega⟩
 | _,.dic _,h=>by simp [D.fit] at h
 | _,.ref _,h=>by simp [D.fit] at h
 | _,.exc _,h=>by simp [D.fit] at h
 | n+1,.tup l,h=>by
  have h':D.fits n l=true:=by simpa [D.fit] using h
  obtain ⟨a,b⟩:=D.lays h';exact ⟨by simpa [D.py,PyData.canLay0] using a,by simp only [D.py,PyData.depth];omega⟩
 | n+1,.lst l,h=>by
  have h':D.fits n l=true:=by simpa [D.fit] using h
  obtain ⟨a,b⟩:=D.lays h';exact ⟨by simpa [D.py,PyData.canLay0] using a,by simp only [D.py,PyData.depth];omega⟩
theorem D.lays:∀{n:Nat} {l:List D},D.fits n l=true->PyData.canLayAll0 (D.pys l)=true/\PyData.depthAll (D.pys l)<=n
 | _,[],_=>⟨rfl,yba _⟩
 | n,d::l,h=>by
  simp only [D.fits,yac] at h;obtain ⟨a,b⟩:=D.lay h.1;obtain ⟨c,e⟩:=D.lays h.2;exact ⟨by simp [D.pys,PyData.canLayAll0,a,c],by simp only [D.pys,PyData.depthAll];omega⟩
end
section
variable{X:Cx}{cl:Cf}{w:Wd}
def TopV.lstI(h:TopV cl w v (.lst ds)):∃a xs,v=.ref a/\w.H a=some (.lst xs)/\Shds cl w xs ds:=by
 cases h with
 | sh h=>cases h with
  | lst e k r=>exact ⟨_,_,rfl,e,r⟩
 | ow e t=>cases t with
  | lst r=>exact ⟨_,_,rfl,e,r⟩
def TopV.tupI(h:TopV cl w v (.tup ds)):∃a xs,v=.ref a/\w.H a=some (.tup xs)/\w.ow a=none/\Shds cl w xs ds:=by
 cases h with
 | sh h=>cases h with
  | tup e k r=>exact ⟨_,_,rfl,e,k,r⟩
 | ow e t=>cases t
def TopV.intI(h:TopV cl w v (.int i)):v=.int i:=by
 cases h with
 | sh h=>cases h;rfl
 | ow e t=>cases t
def TopV.strI(h:TopV cl w v (.str i)):v=.str i:=by
 cases h with
 | sh h=>cases h;rfl
 | ow e t=>cases t
def TopV.blI(h:TopV cl w v (.bl i)):v=.bl i:=by
 cases h with
 | sh h=>cases h;rfl
 | ow e t=>cases t
def TopV.nonI(h:TopV cl w v .non):v=.non:=by
 cases h with
 | sh h=>cases h;rfl
 | ow e t=>cases t
def Shd.scrI(hK:X.K=cl.K)(h:Shd cl w v (.scr l)):∃a,v=.ref a/\SqL X.K w.H a (l.map V.int):=by
 cases h with
 | scr e k=>exact ⟨_,rfl,.inl (.inr ⟨_,e⟩)⟩
 | scrK h=>exact ⟨_,rfl,by rw [hK];exact h _⟩
theorem TopV.scrI(hK:X.K=cl.K)(h:TopV cl w v (.scr l)):∃a,v=.ref a/\SqL X.K w.H a (l.map V.int):=by
 cases h with
 | sh h=>exact h.scrI hK
 | ow e t=>cases t
def ziK(I:Inv X pins σ w.H s)(hK:X.K=cl.K)(h:Shd cl w v (.scr l))(r:zbr v u):∃as,Reads s.heap u (D.scr l).py as:=by
  obtain ⟨a,rfl,hq⟩:=h.scrI hK;cases r;obtain ⟨its,rv,p,_⟩:=I.list hq;obtain ⟨o,ho,hc,n,hd⟩:=id p.isList
  have go:∀{l:List Int} {us:List Value},Vals (l.map V.int) us->∃as,ReadsAll s.heap us (l.map PyData.int) as:=by
   intro l
   induction l with
   | nil=>intro us h;cases h;exact ⟨_,.nil⟩
   | cons i l ih =>
    intro us h
    cases h with
    | cons h1 h2 =>
     obtain ⟨t,rfl⟩:=h1;obtain ⟨as,ra⟩:=ih h2;exact ⟨_,.cons (.int i t) ra⟩
  obtain ⟨as,ra⟩:=go rv;exact ⟨_,.list ho hc hd (by simpa using ra)⟩
mutual
theorem zrU{pins:Z3}{σ:St}{s:Shared}(I:Inv X pins σ w.H s)(hK:X.K=cl.K):∀{v:V} {d:D} {n:Nat},Shd cl w v d->d.fit n=true->∀{u:Value},zbr v u->∃as,Reads s.heap u d.py as
 | _,_,_,.non,_,_,r=>by cases r;exact ⟨_,.none⟩
 | _,_,_,.bl b,_,_,r=>by cases r;exact ⟨_,.bool b⟩
 | _,_,_,.int i,_,_,r=>by obtain ⟨t,rfl⟩:=r;exact ⟨_,.int i t⟩
 | _,_,_,.str x,_,_,r=>by obtain ⟨t,rfl⟩:=r;exact ⟨_,.str x t⟩
 | _,_,0,.tup _ _ _,h,_,_=>by simp [D.fit] at h
 | _,_,0,.lst _ _ _,h,_,_=>by simp [D.fit] at h
 | _,_,n+1,.tup (a:=a) e _ rs,h,_,r=>by
  cases r;obtain ⟨its,rv,p,_⟩:=I.tuple (SqT.of (K:=X.K) e);obtain ⟨o,ho,hc,n,hd⟩:=id p;obtain ⟨as,ra⟩:=zdz I hK rs (by simpa [D.fit] using h) rv;exact ⟨_,.tuple ho hc hd (by simpa using ra)⟩
 | _,_,n+1,.lst (a:=a) e _ rs,h,_,r=>by
  cases r;obtain ⟨its,rv,p,_⟩:=I.list (SqL.of (K:=X.K) e);obtain ⟨o,ho,hc,n,hd⟩:=id p.isList;obtain ⟨as,ra⟩:=zdz I hK rs (by simpa [D.fit] using h) rv;exact ⟨_,.list ho hc hd (by simpa using ra)⟩
 | _,_,n,.scr e k,h,_,r=>ziK I hK (.scr e k) r
 | _,_,n,.scrK e,h,_,r=>ziK I hK (.scrK e) r
 | _,_,n,.dicK _ _ _,h,_,_=>by simp [D.fit] at h
 | _,_,n,.dicX _ _ _,h,_,_=>by simp [D.fit] at h
 | _,_,n,.ref _,h,_,_=>by simp [D.fit] at h
 | _,_,n,.exc _ _ _,h,_,_=>by simp [D.fit] at h
theorem zdz{pins:Z3}{σ:St}{s:Shared}(I:Inv X pins σ w.H s)(hK:X.K=cl.K):∀{vs:List V} {ds:List D} {n:Nat},Shds cl w vs ds->D.fits n ds=true->∀{us:List Value},Vals vs us->∃as,ReadsAll s.heap us (D.pys ds) as
 | _,_,_,.nil,_,_,r=>by cases r;exact ⟨_,.nil⟩
 | _,_,n,.cons h t,f,_,r=>by
  simp only [D.fits,yac] at f
  cases r with
  | cons r1 r2 =>
   obtain ⟨as,a⟩:=zrU I hK h f.1 r1;obtain ⟨bs,b⟩:=zdz I hK t f.2 r2;exact ⟨_,.cons a b⟩
end
def zg6(I:Inv X pins σ w.H s)(hK:X.K=cl.K)(h:TopV cl w v d)(f:d.fit n=true)(r:zbr v u):∃as,Reads s.heap u d.py as:=by
 cases h with
 | sh h=>exact zrU I hK h f r
 | ow e t =>
  cases t with
  | lst rs =>
   cases n with
   | zero=>simp [D.fit] at f
   | succ n =>
    cases r;obtain ⟨its,rv,p,_⟩:=I.list (SqL.of (K:=X.K) e);obtain ⟨o,ho,hc,n,hd⟩:=id p.isList;obtain ⟨as,ra⟩:=zdz I hK rs (by simpa [D.fit] using f) rv;exact ⟨_,.list ho hc hd (by simpa using ra)⟩
  | dicK _=>simp [D.fit] at f
  | dicX _=>simp [D.fit] at f
noncomputable def zer(d e:D):Bool:=d.py.eqv e.py
def eqD(d e:D):Option D:=if d.fit 9&&e.fit 9 then some (.bl (zer d e)) else none
noncomputable def neD(d e:D):Option D:=if d.fit 9&&e.fit 9 then some (.bl (!zer d e)) else none
theorem zuW(hK:X.K=cl.K)(hu:X.A.units+64<cLine):OpD X cl (compareOp .Eq) eqD:=by
 intro pins s σ H x y v u Q I rx ry h;obtain ⟨w,d,e,r,rfl,hx,hy,hg,q⟩:=h;unfold eqD at hg;split at hg
 ·rename_i hf;cases hg;rw [yac] at hf;obtain ⟨as,ra⟩:=zg6 I hK hx hf.1 rx;obtain ⟨bs,rb⟩:=zg6 I hK hy hf.2 ry;obtain ⟨l1,d1⟩:=D.lay hf.1;obtain ⟨l2,d2⟩:=D.lay hf.2;exact SeqAt.compareEq_reads ra rb l1 l2 (by omega) ⟨.bl _,w.H,I,rfl,q _ w (Grow.refl _) (.bl _)⟩
 ·cases hg
def zuU(hK:X.K=cl.K)(hu:X.A.units+64<cLine):OpD X cl (compareOp .NotEq) neD:=by
 intro pins s σ H x y v u Q I rx ry h;obtain ⟨w,d,e,r,rfl,hx,hy,hg,q⟩:=h;unfold neD at hg;split at hg
 ·rename_i hf;cases hg;rw [yac] at hf;obtain ⟨as,ra⟩:=zg6 I hK hx hf.1 rx;obtain ⟨bs,rb⟩:=zg6 I hK hy hf.2 ry;obtain ⟨l1,d1⟩:=D.lay hf.1;obtain ⟨l2,d2⟩:=D.lay hf.2;exact SeqAt.compareNe_reads ra rb l1 l2 (by omega) ⟨.bl _,w.H,I,rfl,q _ w (Grow.refl _) (.bl _)⟩
 ·cases hg
noncomputable def zjC:D->Option (List D) | .lst l=>some l | .tup l=>some l | _=>none
noncomputable def zi5(d:D)(l:List D):Bool:=l.any fun e=>zer e d
def inD(d e:D):Option D:=match zjC e with | some l=>if d.fit 8&&D.fits 8 l then some (.bl (zi5 d l)) else none | none=>none
def zkd(d e:D):Option D:=match zjC e with | some l=>if d.fit 8&&D.fits 8 l then some (.bl (!zi5 d l)) else none | none=>none
def zdu{s:Shared}{its:List Value}{d:D}(ra:ReadsAll s.heap its (D.pys ds) as)(f:D.fits 8 ds=true):(its.toArray.any fun y=>(SeqAt.readOf s.heap y).eqv d.py)=zi5 d ds:=by
 rw [SeqAt.any_by_data (vs:=its.toArray) (xs:=D.pys ds) (as:=as) (by simpa using ra) (D.lays f).1]
 have:∀{l:List D},((D.pys l).any fun y=>y.eqv d.py)=zi5 d l:=by
  intro l
  induction l with
  | nil=>rfl
  | cons e l ih =>
   show (e.py.eqv d.py||(D.pys l).any fun y=>y.eqv d.py)=(zer e d||zi5 d l);rw [ih];rfl
 exact this
theorem zb3{A:Around}{s:Shared}{d:D}(hu:A.units+64<cLine)(rx:Reads s.heap x d.py bs)(fd:d.fit 8=true):∀{its:List Value} {ds:List D} {as:List Addr},ReadsAll s.heap its (D.pys ds) as->D.fits 8 ds=true->∀y,y∈its.toArray->SeqAt.EqAt A.in1 s y x ((SeqAt.readOf s.heap y).eqv d.py)
 | [],[],_,_,_,y,hy=>by simp at hy
 | [],_::_,_,h,_,_,_=>by cases h
 | _::_,[],_,h,_,_,_=>by cases h
 | v::its,e::ds,_,h,f,y,hy=>by
  simp only [D.fits,yac] at f
  cases h with
  | cons h1 h2 =>
   simp at hy
   rcases hy with rfl | hy
   ·rw [zh9 (D.lay f.1).1 h1];refine SeqAt.eqAt_reads _ _ _ _ _ _ _ _ h1 rx (D.lay f.1).1 (D.lay fd).1 ?_;have:=(D.lay f.1).2;show A.units+1+_<cLine;omega
   ·exact zb3 hu rx fd h2 f.2 y (by simpa using hy)
def zkE(h:zjC e=some l):e=.lst l\/e=.tup l:=by
 cases e<;>simp [zjC] at h
 ·exact .inr (by rw [h])
 ·exact .inl (by rw [h])
def zuV(hK:X.K=cl.K)(hu:X.A.units+64<cLine):OpD X cl (compareOp .In) inD:=by
 intro pins s σ H x y v u Q I rx ry h;obtain ⟨w,d,e,r,rfl,hx,hy,hg,q⟩:=h;unfold inD at hg;split at hg
 ·rename_i l hl;split at hg
  ·rename_i hf;cases hg;rw [yac] at hf;obtain ⟨bs,rb⟩:=zg6 I hK hx hf.1 rx
   rcases zkE hl with rfl | rfl
   ·obtain ⟨a,xs,rfl,e,rs⟩:=hy.lstI;cases ry;obtain ⟨its,rv,p,_⟩:=I.list (SqL.of (K:=X.K) e);obtain ⟨as,ra⟩:=zdz I hK rs hf.2 rv;refine SeqAt.in_listAt _ p.isList (zb3 hu rb hf.1 ra hf.2) ?_;rw [zdu ra hf.2];exact ⟨.bl _,w.H,I,rfl,q _ w (Grow.refl _) (.bl _)⟩
   ·obtain ⟨a,xs,rfl,e,_,rs⟩:=hy.tupI;cases ry;obtain ⟨its,rv,p,_⟩:=I.tuple (SqT.of (K:=X.K) e);obtain ⟨as,ra⟩:=zdz I hK rs hf.2 rv;refine SeqAt.in_tupleAt _ p (zb3 hu rb hf.1 ra hf.2) ?_;rw [zdu ra hf.2];exact ⟨.bl _,w.H,I,rfl,q _ w (Grow.refl _) (.bl _)⟩
  ·cases hg
 ·cases hg
def zsu(hK:X.K=cl.K)(hu:X.A.units+64<cLine):OpD X cl (compareOp .NotIn) zkd:=by
 intro pins s σ H x y v u Q I rx ry h;obtain ⟨w,d,e,r,rfl,hx,hy,hg,q⟩:=h;unfold zkd at hg;split at hg
 ·rename_i l hl;split at hg
  ·rename_i hf;cases hg;rw [yac] at hf;obtain ⟨bs,rb⟩:=zg6 I hK hx hf.1 rx
   rcases zkE hl with rfl | rfl
   ·obtain ⟨a,xs,rfl,e,rs⟩:=hy.lstI;cases ry;obtain ⟨its,rv,p,_⟩:=I.list (SqL.of (K:=X.K) e);obtain ⟨as,ra⟩:=zdz I hK rs hf.2 rv;refine SeqAt.notIn_listAt _ p.isList (zb3 hu rb hf.1 ra hf.2) ?_;rw [zdu ra hf.2];exact ⟨.bl _,w.H,I,rfl,q _ w (Grow.refl _) (.bl _)⟩
   ·obtain ⟨a,xs,rfl,e,_,rs⟩:=hy.tupI;cases ry;obtain ⟨its,rv,p,_⟩:=I.tuple (SqT.of (K:=X.K) e);obtain ⟨as,ra⟩:=zdz I hK rs hf.2 rv;refine SeqAt.notIn_tupleAt _ p (zb3 hu rb hf.1 ra hf.2) ?_;rw [zdu ra hf.2];exact ⟨.bl _,w.H,I,rfl,q _ w (Grow.refl _) (.bl _)⟩
  ·cases hg
 ·cases hg
def zcz:D->D->Option D
 | .int i,.int j=>some (.int (i+j))
 | .tup a,.tup b=>if zaH (a.length+b.length) then some (.tup (a++b)) else none
 | .lst a,.lst b=>if zaH (a.length+b.length) then some (.lst (a++b)) else none
 | .str a,.str b=>if zaH (a.length+b.length) then some (.str (a++b)) else none
 | _,_=>none
def zsA:OpD X cl (binaryOp .Add) zcz:=by
 intro pins s σ H x y v u Q I rx ry h;obtain ⟨w,d,e,r,rfl,hx,hy,hg,q⟩:=h;unfold zcz at hg;split at hg
 ·cases hg;rename_i i j;obtain rfl:=hx.intI;obtain rfl:=hy.intI;exact zsq pins s σ w.H _ _ v u Q I rx ry ⟨i,j,rfl,rfl,q _ w (Grow.refl _) (.int _)⟩
 ·rename_i a b;split at hg
  ·rename_i hz;cases hg;obtain ⟨p,xs,rfl,ep,kp,rs⟩:=hx.tupI;obtain ⟨p2,ys,rfl,ep2,kp2,rs2⟩:=hy.tupI
   by_cases hxe:xs=[]
   ·subst hxe;cases rs;exact zm3 pins s σ w.H _ _ v u Q I rx ry ⟨p,p2,ys,rfl,rfl,SqT.of ep,SqT.of ep2,q _ w (Grow.refl _) (.tup ep2 kp2 rs2)⟩
   ·refine zpJ pins s σ w.H _ _ v u Q I rx ry ⟨p,p2,xs,ys,rfl,rfl,SqT.of ep,SqT.of ep2,hxe,by rw [rs.length,rs2.length];exact zaT hz,fun z=>?_,fun z l hl=>?_⟩
    ·subst z;cases rs2;rw [yaS] at q;exact q _ w (Grow.refl _) (.tup ep kp rs)
    ·exact q _ (w.add l _) (zau hl _) (Shd.newT hl (rs.append rs2))
  ·cases hg
 ·rename_i a b;split at hg
  ·rename_i hz;cases hg;obtain ⟨p,xs,rfl,ep,rs⟩:=hx.lstI;obtain ⟨p2,ys,rfl,ep2,rs2⟩:=hy.lstI;exact zsp pins s σ w.H _ _ v u Q I rx ry ⟨p,p2,xs,ys,rfl,rfl,ep,ep2,by rw [rs.length,rs2.length];exact zaT hz,fun l hl=>q _ (w.add l _) (zau hl _) (Shd.newL hl (rs.append rs2))⟩
  ·cases hg
 ·rename_i a b;split at hg
  ·rename_i hz;cases hg;obtain rfl:=hx.strI;obtain rfl:=hy.strI;exact zjL pins s σ w.H _ _ v u Q I rx ry ⟨a,b,rfl,rfl,zaT hz,q _ w (Grow.refl _) (.str _)⟩
  ·cases hg
 ·cases hg
noncomputable def zrk:D->D->Option D | .int i,.int j=>some (.int (i-j)) | _,_=>none
def zst:OpD X cl (binaryOp .Sub) zrk:=by
 intro pins s σ H x y v u Q I rx ry h;obtain ⟨w,d,e,r,rfl,hx,hy,hg,q⟩:=h;unfold zrk at hg;split at hg
 ·cases hg;rename_i i j;obtain rfl:=hx.intI;obtain rfl:=hy.intI;exact zsl pins s σ w.H _ _ v u Q I rx ry ⟨i,j,rfl,rfl,q _ w (Grow.refl _) (.int _)⟩
 ·cases hg
noncomputable def zco(i:Int):Bool:=decide (-(2 ^ 64)<i/\i<2 ^ 64)
def zi3:D->D->Option D
 | .int i,.int j=>if zco i||zco j then some (.int (i*j)) else none
 | .tup a,.int j=>if decide (1<=j/\j<=1000/\a≠[]/\a.length<=1000) then some (.tup (List.replicate j.toNat a).flatten) else none
 | .lst a,.int j=>if decide (0<=j/\j<=1000/\a.length<=1000) then some (.lst (List.replicate j.toNat a).flatten) else none
 | _,_=>none
theorem zsv:OpD X cl (binaryOp .Mult) zi3:=by
 intro pins s σ H x y v u Q I rx ry h;obtain ⟨w,d,e,r,rfl,hx,hy,hg,q⟩:=h;unfold zi3 at hg;split at hg
 ·rename_i i j;split at hg
  ·rename_i hz;cases hg;obtain rfl:=hx.intI;obtain rfl:=hy.intI;refine zsm pins s σ w.H _ _ v u Q I rx ry ⟨i,j,rfl,rfl,?_,q _ w (Grow.refl _) (.int _)⟩;rw [ycQ] at hz;exact hz.imp (fun z=>yaq z) fun z=>yaq z
  ·cases hg
 ·rename_i a j;split at hg
  ·rename_i hz;cases hg;have hz':=yaq hz;obtain ⟨p,xs,rfl,ep,kp,rs⟩:=hx.tupI;obtain rfl:=hy.intI;have hl:=rs.length;obtain ⟨k,rfl⟩:∃k:Nat,j=(k:Int):=⟨j.toNat,by omega⟩;have hne:xs≠[]:=fun z=>hz'.2.2.1 (by cases a with | nil=>rfl | cons _ _=>rw [z] at hl;cases hl)
   by_cases hk:k=1
   ·subst hk;cases rx;obtain ⟨t,rfl⟩:=ry;obtain ⟨its,rv,⟨o,ho,hc,n,hd⟩,_⟩:=I.tuple (SqT.of (K:=X.K) ep);refine PySem.zm8 ho hc hd ⟨.ref p,w.H,I,rfl,q _ w (Grow.refl _) (.tup ep kp ?_)⟩;simpa using rs
   ·refine zpG pins s σ w.H _ _ v u Q I rx ry ⟨p,k,xs,rfl,rfl,SqT.of ep,hne,by omega,by omega,by omega,fun l hl=>q _ (w.add l _) (zau hl _) (Shd.newT hl (rs.flat _))⟩
  ·cases hg
 ·rename_i a j;split at hg
  ·rename_i hz;cases hg;have hz':=yaq hz;obtain ⟨p,xs,rfl,ep,rs⟩:=hx.lstI;obtain rfl:=hy.intI;have hl:=rs.length;refine zol pins s σ w.H _ _ v u Q I rx ry ⟨p,j,xs,rfl,rfl,ep,by omega,by omega,?_,fun l hl=>q _ (w.add l _) (zau hl _) (Shd.newL hl (rs.flat _))⟩;refine yak (ybo (show xs.length<=1000 by omega) (show j.toNat<=1000 by omega)) (by decide)
  ·cases hg
 ·cases hg
noncomputable def zmk:D->D->Option D | .int i,.int j=>if 0<j then some (.int (i % j)) else none | _,_=>none
noncomputable def zti:D->D->Option D | .int i,.int j=>if 0<j/\j<1073741824 then some (.int (i / j)) else none | _,_=>none
def zsw:OpD X cl (binaryOp .Mod) zmk:=by
 intro pins s σ H x y v u Q I rx ry h;obtain ⟨w,d,e,r,rfl,hx,hy,hg,q⟩:=h;unfold zmk at hg;split at hg
 ·rename_i i j;split at hg
  ·rename_i hz;cases hg;obtain rfl:=hx.intI;obtain rfl:=hy.intI;exact zsn pins s σ w.H _ _ v u Q I rx ry ⟨i,j,rfl,rfl,hz,q _ w (Grow.refl _) (.int _)⟩
  ·cases hg
 ·cases hg
def zsz:OpD X cl (binaryOp .FloorDiv) zti:=by
 intro pins s σ H x y v u Q I rx ry h;obtain ⟨w,d,e,r,rfl,hx,hy,hg,q⟩:=h;unfold zti at hg;split at hg
 ·rename_i i j;split at hg
  ·rename_i hz;cases hg;obtain rfl:=hx.intI;obtain rfl:=hy.intI;exact zpI pins s σ w.H _ _ v u Q I rx ry ⟨i,j,rfl,rfl,hz,q _ w (Grow.refl _) (.int _)⟩
  ·cases hg
 ·cases hg
noncomputable def zop:D->Option D | .int i=>some (.int (-i)) | _=>none
def zq4:UnD X cl (unaryOp .USub) zop:=by
 intro pins s σ H x v Q I rx h;obtain ⟨w,d,r,rfl,hx,hg,q⟩:=h;unfold zop at hg;split at hg
 ·cases hg;rename_i i;obtain rfl:=hx.intI;exact zq3 pins s σ w.H _ v Q I rx ⟨i,rfl,q _ w (Grow.refl _) (.int _)⟩
 ·cases hg
noncomputable def zqW(p:Int->Int->Bool):D->D->Option D | .int i,.int j=>some (.bl (p i j)) | _,_=>none
def zge(ho:OpR X (compareOp op) (rI0 fun i j=>.bl (p i j))):OpD X cl (compareOp op) (zqW p):=by
 intro pins s σ H x y v u Q I rx ry h;obtain ⟨w,d,e,r,rfl,hx,hy,hg,q⟩:=h;unfold zqW at hg;split at hg
 ·cases hg;rename_i i j;obtain rfl:=hx.intI;obtain rfl:=hy.intI;exact ho pins s σ w.H _ _ v u Q I rx ry ⟨i,j,rfl,rfl,q _ w (Grow.refl _) (.bl _)⟩
 ·cases hg
noncomputable def zc5:D->Bool | .non=>true | _=>false
def zno(d e:D):Option D:=if zc5 e then some (.bl (zc5 d)) else none
def zib(d e:D):Option D:=if zc5 e then some (.bl (!zc5 d)) else none
def TopV.non_iff(h:TopV cl w v d):decide (v=.non)=zc5 d:=by
 cases h with
 | sh h=>cases h<;>simp [zc5]
 | ow e t=>cases t<;>simp [zc5]
def zhn(h:zc5 d=true):d=.non:=by cases d<;>simp [zc5] at h;rfl
def zsx:OpD X cl (compareOp .Is) zno:=by
 intro pins s σ H x y v u Q I rx ry h;obtain ⟨w,d,e,r,rfl,hx,hy,hg,q⟩:=h;unfold zno at hg;split at hg
 ·rename_i hz;cases hg;rw [zhn hz] at hy;obtain rfl:=hy.nonI;refine zso pins s σ w.H _ _ v u Q I rx ry ⟨rfl,?_⟩;rw [hx.non_iff];exact q _ w (Grow.refl _) (.bl _)
 ·cases hg
def zpO:OpD X cl (compareOp .IsNot) zib:=by
 intro pins s σ H x y v u Q I rx ry h;obtain ⟨w,d,e,r,rfl,hx,hy,hg,q⟩:=h;unfold zib at hg;split at hg
 ·rename_i hz;cases hg;rw [zhn hz] at hy;obtain rfl:=hy.nonI;refine zpH pins s σ w.H _ _ v u Q I rx ry ⟨rfl,?_⟩;rw [hx.non_iff];exact q _ w (Grow.refl _) (.bl _)
 ·cases hg
noncomputable def zk8:D->D->Option D | .bl a,.bl b=>some (.bl (!decide (a=b))) | _,_=>none
def zpP:OpD X cl (compareOp .IsNot) zk8:=by
 intro pins s σ H x y v u Q I rx ry h;obtain ⟨w,d,e,r,rfl,hx,hy,hg,q⟩:=h;unfold zk8 at hg;split at hg
 ·cases hg;obtain rfl:=hx.blI;obtain rfl:=hy.blI;exact zia pins s σ w.H _ _ v u Q I rx ry ⟨_,_,rfl,rfl,q _ w (Grow.refl _) (.bl _)⟩
 ·cases hg
def ixD:D->D->Option D
 | .lst l,.int i=>atI l i
 | .tup l,.int i=>atI l i
 | .scr l,.int i=>(atI l i).map D.int
 | _,_=>none
def ziG(r:Shds cl w xs ds)(h:atI ds i=some d):∃v,atI xs i=some v/\Shd cl w v d:=by
 unfold atI at h ⊢;rw [r.length]
 cases e:ixN ds.length i with
 | none=>rw [e] at h;cases h
 | some j =>
  rw [e] at h;exact r.at h
def zvn(hK:X.K=cl.K):IxD X cl ixD:=by
 intro value slice pins s σ H x y v u Q I rx ry h hsub;obtain ⟨w,d,e,r,rfl,hx,hy,hg,q⟩:=h;unfold ixD at hg;split at hg
 ·rename_i l i;obtain ⟨p,xs,rfl,ep,rs⟩:=hx.lstI;obtain rfl:=hy.intI;obtain ⟨z,e1,e2⟩:=ziG rs hg;exact zlx value slice pins s σ w.H _ _ v u Q I rx ry ⟨p,xs,i,z,rfl,rfl,SqL.of ep,e1,q _ w (Grow.refl _) e2⟩ hsub
 ·rename_i l i;obtain ⟨p,xs,rfl,ep,_,rs⟩:=hx.tupI;obtain rfl:=hy.intI;obtain ⟨z,e1,e2⟩:=ziG rs hg;exact zsY value slice pins s σ w.H _ _ v u Q I rx ry ⟨p,xs,i,z,rfl,rfl,SqT.of ep,e1,q _ w (Grow.refl _) e2⟩ hsub
 ·rename_i l i;obtain ⟨p,rfl,ep⟩:=hx.scrI hK;obtain rfl:=hy.intI
  cases hl:atI l i with
  | none=>rw [hl] at hg;cases hg
  | some k =>
   rw [hl] at hg;cases hg
   have e1:atI (l.map V.int) i=some (.int k):=by
    unfold atI at hl ⊢;rw [yad]
    cases e:ixN l.length i with
    | none=>rw [e] at hl;cases hl
    | some j =>
     rw [e] at hl;have hl':l[j]?=some k:=hl;show (l.map V.int)[j]?=_;rw [yal,hl'];rfl
   exact zlx value slice pins s σ w.H _ _ v u Q I rx ry ⟨p,_,i,_,rfl,rfl,ep,e1,q _ w (Grow.refl _) (.int _)⟩ hsub
 ·cases hg
def zcH:List D->Option D
 | [.lst l]=>some (.int l.length)
 | [.tup l]=>some (.int l.length)
 | [.scr l]=>some (.int l.length)
 | [.str x]=>if zaH x.length then some (.int x.length) else none
 | _=>none
def ztn(hK:X.K=cl.K):zka X cl (.builtin "len") zcH:=by
 intro pins s σ H xs us Q I r h;obtain ⟨w,ds,d,rfl,hx,hg,q⟩:=h;unfold zcH at hg;split at hg
 ·rename_i l;cases hg
  cases hx with
  | cons h1 h2 =>
   cases h2;obtain ⟨p,ys,rfl,ep,rs⟩:=h1.lstI;refine zdg pins s σ w.H _ us Q I r ⟨p,ys,rfl,.inl (SqL.of ep),?_⟩;rw [rs.length];exact q _ w (Grow.refl _) (.int _)
 ·rename_i l;cases hg
  cases hx with
  | cons h1 h2 =>
   cases h2;obtain ⟨p,ys,rfl,ep,_,rs⟩:=h1.tupI;refine zdg pins s σ w.H _ us Q I r ⟨p,ys,rfl,.inr (SqT.of ep),?_⟩;rw [rs.length];exact q _ w (Grow.refl _) (.int _)
 ·rename_i l;cases hg
  cases hx with
  | cons h1 h2 =>
   cases h2;obtain ⟨p,rfl,ep⟩:=h1.scrI hK;refine zdg pins s σ w.H _ us Q I r ⟨p,l.map V.int,rfl,.inl ep,?_⟩;rw [yad];exact q _ w (Grow.refl _) (.int _)
 ·rename_i x;split at hg
  ·rename_i hz;cases hg
   cases hx with
   | cons h1 h2 =>
    cases h2;obtain rfl:=h1.strI;exact zhD pins s σ w.H _ us Q I r ⟨x,rfl,zaT hz,q _ w (Grow.refl _) (.int _)⟩
  ·cases hg
 ·cases hg
noncomputable def zcf:List D->Option D
 | [.lst l]=>some (.tup l)
 | [.tup l]=>some (.tup l)
 | _=>none
def znO:zka X cl (.type "tuple") zcf:=by
 intro pins s σ H xs us Q I r h;obtain ⟨w,ds,d,rfl,hx,hg,q⟩:=h;unfold zcf at hg;split at hg
 ·rename_i l;cases hg
  cases hx with
  | cons h1 h2 =>
   cases h2;obtain ⟨p,ys,rfl,ep,rs⟩:=h1.lstI;exact zd6 pins s σ w.H _ us Q I r ⟨p,ys,rfl,.inl ⟨SqL.of ep,fun l hl=>q _ (w.add l _) (zau hl _) (Shd.newT hl rs)⟩⟩
 ·rename_i l;cases hg
  cases hx with
  | cons h1 h2 =>
   cases h2;obtain ⟨p,ys,rfl,ep,kp,rs⟩:=h1.tupI;exact zd6 pins s σ w.H _ us Q I r ⟨p,ys,rfl,.inr ⟨SqT.of ep,q _ w (Grow.refl _) (.tup ep kp rs)⟩⟩
 ·cases hg
noncomputable def zjR:List D->Option D
 | [.lst l]=>some (.lst l)
 | [.tup l]=>some (.lst l)
 | _=>none
def zqz:ztD X cl (.type "list") zjR:=by
 intro pins s σ H xs us Q I r h;obtain ⟨w,ds,d,rfl,hx,hg,q⟩:=h;unfold zjR at hg;split at hg
 ·rename_i l;cases hg
  cases hx with
  | cons h1 h2 =>
   cases h2;obtain ⟨p,ys,rfl,ep,rs⟩:=h1.lstI;exact zey pins s σ w.H _ us Q I r ⟨p,ys,rfl,.inl (SqL.of ep),fun l hl=>q _ _ w (Grow.refl _) hl (.lst rs)⟩
 ·rename_i l;cases hg
  cases hx with
  | cons h1 h2 =>
   cases h2;obtain ⟨p,ys,rfl,ep,_,rs⟩:=h1.tupI;exact zey pins s σ w.H _ us Q I r ⟨p,ys,rfl,.inr (SqT.of ep),fun l hl=>q _ _ w (Grow.refl _) hl (.lst rs)⟩
 ·cases hg
noncomputable def zgA:List D->Option (List Bool)
 | []=>some []
 | .bl b::l=>(zgA l).map (b::·)
 | _=>none
def znV:∀{xs:List V},Shds cl w xs ds->zgA ds=some bs->xs=bs.map V.bl:=by
 induction ds generalizing bs with
 | nil=>intro xs r h;cases r;cases h;rfl
 | cons d ds ih =>
  intro xs r e
  cases r with
  | cons h t =>
   cases d with
   | bl b =>
    cases h;unfold zgA at e
    cases hr:zgA ds with
    | none=>rw [hr] at e;cases e
    | some cs=>rw [hr] at e;cases e;rw [ih t hr];rfl
   | _=>cases e
def zme:List D->Option D
 | [.lst l]=>(zgA l).map fun bs=>.bl (bs.all id)
 | _=>none
def zto(hc:X.calm=true):zka X cl (.builtin "all") zme:=by
 intro pins s σ H xs us Q I r h;obtain ⟨w,ds,d,rfl,hx,hg,q⟩:=h;unfold zme at hg;split at hg
 ·rename_i l
  cases hb:zgA l with
  | none=>rw [hb] at hg;cases hg
  | some bs =>
   rw [hb] at hg;cases hg
   cases hx with
   | cons h1 h2 =>
    cases h2;obtain ⟨p,ys,rfl,ep,rs⟩:=h1.lstI;obtain rfl:=znV rs hb;exact zio hc pins s σ w.H _ us Q I r ⟨p,bs,rfl,SqL.of ep,q _ w (Grow.refl _) (.bl _)⟩
 ·cases hg
noncomputable def zbB:List D->Option (List Int)
 | []=>some []
 | .int b::l=>(zbB l).map (b::·)
 | _=>none
def zfc:∀{xs:List V},Shds cl w xs ds->zbB ds=some bs->xs=bs.map V.int:=by
 induction ds generalizing bs with
 | nil=>intro xs r h;cases r;cases h;rfl
 | cons d ds ih =>
  intro xs r e
  cases r with
  | cons h t =>
   cases d with
   | int b =>
    cases h;unfold zbB at e
    cases hr:zbB ds with
    | none=>rw [hr] at e;cases e
    | some cs=>rw [hr] at e;cases e;rw [ih t hr];rfl
   | _=>cases e
def zrj:List D->Option D
 | [.lst l]=>(zbB l).bind fun ns=>if decide (ns.length<=1000)&&ns.all (fun n=>decide (0<=n/\n<=1000000)) then some (.int ns.sum) else none
 | _=>none
def ztm(hc:X.calm=true):zka X cl (.builtin "sum") zrj:=by
 intro pins s σ H xs us Q I r h;obtain ⟨w,ds,d,rfl,hx,hg,q⟩:=h;unfold zrj at hg;split at hg
 ·rename_i l
  cases hb:zbB l with
  | none=>rw [hb] at hg;cases hg
  | some ns =>
   rw [hb] at hg;dsimp only [Option.bind] at hg;split at hg
   ·rename_i hz;cases hg;rw [yac,ybl] at hz
    cases hx with
    | cons h1 h2 =>
     cases h2;obtain ⟨p,ys,rfl,ep,rs⟩:=h1.lstI;obtain rfl:=zfc rs hb;exact znQ hc pins s σ w.H _ us Q I r ⟨p,ns,rfl,SqL.of ep,yaq hz.1,fun n hn=>yaq (hz.2 n hn),q _ w (Grow.refl _) (.int _)⟩
   ·cases hg
 ·cases hg
end
end S2
namespace L2
open PySem PySem.Spec PyProof.Rows
end L2
namespace S2
open PySem PySem.Spec PyProof.Rows L2
def zcT(g g':D->D->Option D)(f h k:Fe):Fe:=fun ρ S=>(f ρ S).bind fun a S1=>(h ρ S1).bind fun b S2=>match (g a b).bind isB with
 | some true=>(k ρ S2).bind fun c S3=>Out.of (g' b c) S3
 | some false=>.ok (.bl false) S2
 | none=>.bad
section
variable{X:Cx}{cl:Cf}{E:St->XK}{a b c e:Expr}{f h k:Fe}{pos:Pos}
def ziB(hr:∀x y H Q,(∃w d e r,w.H=H/\TopV cl w x d/\TopV cl w y e/\g d e=some r/\∀v w',Grow w w'->Shd cl w' v r->Q v w'.H)->r x y H Q)
  (hr':∀x y H Q,(∃w d e r,w.H=H/\TopV cl w x d/\TopV cl w y e/\g' d e=some r/\∀v w',Grow w w'->Shd cl w' v r->Q v w'.H)->r' x y H Q) (q:tE cl E (zcT g g' f h k) σ H Q):zkv r r' (tH cl E f) (tH cl E h) (tH cl E k) σ H Q:=by
 obtain ⟨B,w,ρ,S,rfl,R,q⟩:=q;refine ⟨B,w,ρ,S,rfl,R,?_⟩;unfold zcT at q
 cases hf:f ρ S with
 | bad=>rwa [hf] at q
 | exc c S1=>rwa [hf] at q
 | ok d S1 =>
  rw [hf] at q;intro v w1 R1 F1 h1;refine ⟨B,w1,ρ,S1,rfl,R1,?_⟩;dsimp only [Out.bind] at q
  cases hh:h ρ S1 with
  | bad=>rwa [hh] at q
  | exc c S2=>rw [hh] at q;exact fun w2 R2 F2=>q w2 R2 (F1.trans F2)
  | ok e S2 =>
   rw [hh] at q;intro y w2 R2 F2 h2;dsimp only at q
   cases hg:g d e with
   | none=>rw [hg] at q;exact q.elim
   | some z =>
    rw [hg] at q;dsimp only [Option.bind] at q
    cases hb:isB z with
    | none=>rw [hb] at q;exact q.elim
    | some bb =>
     rw [hb] at q;rw [zdq hb] at hg;refine hr _ _ _ _ ⟨w2,d,e,_,rfl,(h1.up F2).top R2,h2.top R2,hg,fun v' w3 gr sh=>⟨bb,zgU sh,?_⟩⟩;have R3:=R2.grow gr
     cases bb with
     | false=>exact znn (q _ w3 R3 (F1.trans (F2.trans gr.fut)) (.bl _))
     | true =>
      refine znm ⟨B,w3,ρ,S2,rfl,R3,?_⟩;dsimp only at q
      cases hk:k ρ S2 with
      | bad=>rwa [hk] at q
      | exc c S3=>rw [hk] at q;exact fun w4 R4 F4=>q w4 R4 (F1.trans (F2.trans (gr.fut.trans F4)))
      | ok c S3 =>
       rw [hk] at q;intro z' w4 R4 F4 h4;dsimp only at q
       cases hg':g' e c with
       | none=>rw [hg'] at q;exact q.elim
       | some r2 =>
        rw [hg'] at q;exact hr' _ _ _ _ ⟨w4,e,c,r2,rfl,(h2.up (gr.fut.trans F4)).top R4,h4.top R4,hg',fun v' w5 gr5 sh5=>q v' w5 (R4.grow gr5) (F1.trans (F2.trans (gr.fut.trans (F4.trans gr5.fut)))) sh5⟩
def zmx(ho:OpD X cl (compareOp op) g)(ho':OpD X cl (compareOp op') g')(ha:PE X a (tH cl E f))(hb:PE X b (tH cl E h))(hc:PE X c (tH cl E k))(hm:lastMarks [op,op'] [b,c]=false):PE X (.Compare a [op,op'] [b,c] pos) (tE cl E (zcT g g' f h k)) :=
 PE.imp (zmX ho ho' ha hb hc hm) fun _ _ _ q=>ziB (fun _ _ _ _ z=>z) (fun _ _ _ _ z=>z) q
def zmq(ho:OpD X cl (compareOp op) g)(ho':OpD X cl (compareOp op') g')(ha:PE X a (tH cl E f))(hb:PE X b (tH cl E h))(hc:PE X c (tH cl E k))(hm:lastMarks [op,op'] [b,c]=false):PT X (.Compare a [op,op'] [b,c] pos) (tTr cl E (zcT g g' f h k)) :=
 PT.imp (zmI ho ho' ha hb hc hm) fun _ _ _ q=>ziB (fun _ _ _ _ z=>z) (fun _ _ _ _ z=>z) (ziA q)
def zlR{α:Type}(l:List α)(lo hi:Option Int):List α:=(l.drop (HT.sIx l.length 0 lo)).take (HT.sIx l.length l.length hi-HT.sIx l.length 0 lo)
def slD(d:D)(lo hi:Option Int):Option D:=match d with
 | .lst l=>some (.lst (zlR l lo hi))
 | .tup l=>some (.tup (zlR l lo hi))
 | _=>none
def zcU(o:Option Fe)(ρ:Env)(S:Sto):Out (Option Int):=match o with
 | none=>.ok none S
 | some f=>(f ρ S).bind fun d S1=>match d with | .int i=>.ok (some i) S1 | _=>.bad
def eSl(f:Fe)(lo hi:Option Fe):Fe:=fun ρ S=>(f ρ S).bind fun d S1=>(zcU lo ρ S1).bind fun l S2=>(zcU hi ρ S2).bind fun u S3=>Out.of (slD d l u) S3
def zhA(r:Shds cl w xs ds)(lo hi:Option Int):Shds cl w (zoG xs lo hi) (zlR ds lo hi):=by
 unfold zoG zlR;rw [r.length];exact (r.drop _).take _
noncomputable def SlD(X:Cx)(cl:Cf):Prop:=SlR X fun x lo hi H Q=>∃w d r,w.H=H/\TopV cl w x d/\slD d lo hi=some r/\∀v w',Grow w w'->Shd cl w' v r->Q v w'.H
def zuF:SlD X cl:=by
 intro pins s σ H x v vl vu lo hi sl Q I rx hs pl pu h;obtain ⟨w,d,r,rfl,hx,hg,q⟩:=h;unfold slD at hg;split at hg
 ·rename_i l;cases hg;obtain ⟨p,xs,rfl,ep,rs⟩:=hx.lstI;exact zpb pins s σ w.H _ v vl vu lo hi sl Q I rx hs pl pu ⟨p,xs,rfl,SqL.of ep,fun p' hp=>q _ (w.add p' _) (zau hp _) (Shd.newL hp (zhA rs lo hi))⟩
 ·rename_i l;cases hg;obtain ⟨p,xs,rfl,ep,kp,rs⟩:=hx.tupI
  by_cases hw:HT.sIx xs.length 0 lo=0/\HT.sIx xs.length xs.length hi=xs.length
  ·refine zjA pins s σ w.H _ v vl vu lo hi sl Q I rx hs pl pu ⟨p,xs,rfl,SqT.of ep,hw.1,hw.2,q _ w (Grow.refl _) (.tup ep kp ?_)⟩
   have:zlR l lo hi=l:=by
    unfold zlR;rw [<-rs.length,hw.1,hw.2,List.drop_zero,Nat.sub_zero,List.take_of_length_le (by rw [rs.length];exact yaj _)]
   rw [this];exact rs
  ·exact zrx pins s σ w.H _ v vl vu lo hi sl Q I rx hs pl pu ⟨p,xs,rfl,SqT.of ep,hw,fun p' hp=>q _ (w.add p' _) (zau hp _) (Shd.newT hp (zhA rs lo hi))⟩
 ·cases hg
noncomputable def ztH(cl:Cf)(E:St->XK)(o:Option Fe):TO:=match o with | none=>zku | some f=>zrb (tH cl E f)
def zrG{lo hi:Option Expr}{fl fh:Option Fe}{p2:Pos}(he:PE X e (tH cl E f))(hl:PO X lo (ztH cl E fl))(hu:PO X hi (ztH cl E fh)):PE X (.Subscript e (.Slice lo hi none p2) pos) (tE cl E (eSl f fl fh)):=by
 refine PE.imp (zmR (zuF (cl:=cl)) he hl hu) ?_;rintro σ H Q ⟨B,w,ρ,S,rfl,R,q⟩;refine ⟨B,w,ρ,S,rfl,R,?_⟩;unfold eSl at q
 cases hf:f ρ S with
 | bad=>rwa [hf] at q
 | exc c S1=>rwa [hf] at q
 | ok d S1 =>
  rw [hf] at q;intro v w1 R1 F1 h1;dsimp only [Out.bind] at q
  have last:∀(l u:Option Int) (w3:Wd) (S3:Sto),Rel cl B σ w3 ρ S3->Fut w1 w3->(match Out.of (slD d l u) S3 with
    | .ok d S'=>∀v w',Rel cl B σ w' ρ S'->Fut w w'->Shd cl w' v d->Q v w'.H
    | .exc c S'=>∀w',Rel cl B σ w' ρ S'->Fut w w'->E σ (.ref (cl c)) none w'.H
    | .bad=>False)->∃w d r,w.H=w3.H/\TopV cl w v d/\slD d l u=some r/\∀v w',Grow w w'->Shd cl w' v r->Q v w'.H:=by
   intro l u w3 S3 R3 F3 q3
   cases hg:slD d l u with
   | none=>rw [hg] at q3;exact q3.elim
   | some r =>
    rw [hg] at q3;exact ⟨w3,d,r,rfl,(h1.up F3).top R3,hg,fun v' w' gr sh=>q3 v' w' (R3.grow gr) (F1.trans (F3.trans gr.fut)) sh⟩
  have second:∀(l:Option Int) (w2:Wd) (S2:Sto),Rel cl B σ w2 ρ S2->Fut w1 w2->(match (zcU fh ρ S2).bind fun u S3=>Out.of (slD d l u) S3 with
    | .ok d S'=>∀v w',Rel cl B σ w' ρ S'->Fut w w'->Shd cl w' v d->Q v w'.H
    | .exc c S'=>∀w',Rel cl B σ w' ρ S'->Fut w w'->E σ (.ref (cl c)) none w'.H
    | .bad=>False)->ztH cl E fh σ w2.H fun u H3=>∃w d r,w.H=H3/\TopV cl w v d/\slD d l u=some r/\∀v w',Grow w w'->Shd cl w' v r->Q v w'.H:=by
   intro l w2 S2 R2 F2 q2
   cases fh with
   | none=>exact last l none w2 S2 R2 F2 q2
   | some fh =>
    refine ⟨B,w2,ρ,S2,rfl,R2,?_⟩;unfold zcU at q2;dsimp only at q2
    cases hh:fh ρ S2 with
    | bad=>rwa [hh] at q2
    | exc c S3=>rw [hh] at q2;exact fun w3 R3 F3=>q2 w3 R3 (F1.trans (F2.trans F3))
    | ok dh S3 =>
     rw [hh] at q2;intro y w3 R3 F3 h3;dsimp only [Out.bind] at q2
     cases dh with
     | int i =>
      refine ⟨i,(h3.top R3).intI,?_⟩;exact last l (some i) w3 S3 R3 (F2.trans F3) q2
     | _=>exact q2.elim
  cases fl with
  | none=>exact second none w1 S1 R1 (Fut.refl _) q
  | some fl =>
   refine ⟨B,w1,ρ,S1,rfl,R1,?_⟩;unfold zcU at q;dsimp only at q
   cases hh:fl ρ S1 with
   | bad=>rwa [hh] at q
   | exc c S3=>rw [hh] at q;exact fun w3 R3 F3=>q w3 R3 (F1.trans F3)
   | ok dl S2 =>
    rw [hh] at q;intro y w2 R2 F2 h2;dsimp only [Out.bind] at q
    cases dl with
    | int i =>
     refine ⟨i,(h2.top R2).intI,?_⟩;exact second (some i) w2 S2 R2 F2 q
    | _=>exact q.elim
noncomputable def zeB(T:String)(d:D):Option D :=
 if T = "int" then (match d with | .int _=>some (.bl true) | .bl _=>some (.bl true) | .non=>some (.bl false) | .str _=>some (.bl false) | .tup _=>some (.bl false) | .lst _=>some (.bl false) | _=>none)
 else if T = "bool" then (match d with | .int _=>some (.bl false) | .bl _=>some (.bl true) | .non=>some (.bl false) | .str _=>some (.bl false) | .tup _=>some (.bl false) | .lst _=>some (.bl false) | _=>none)
 else if T = "tuple" then (match d with | .int _=>some (.bl false) | .bl _=>some (.bl false) | .non=>some (.bl false) | .str _=>some (.bl false) | .tup _=>some (.bl true) | .lst _=>some (.bl false) | _=>none)
 else if T = "str" then (match d with | .int _=>some (.bl false) | .bl _=>some (.bl false) | .non=>some (.bl false) | .str _=>some (.bl true) | .tup _=>some (.bl false) | .lst _=>some (.bl false) | _=>none)
 else if T = "list" then (match d with | .int _=>some (.bl false) | .bl _=>some (.bl false) | .non=>some (.bl false) | .str _=>some (.bl false) | .tup _=>some (.bl false) | .lst _=>some (.bl true) | _=>none)
 else none
def zqh{K:PySem.W.Frag}{w:Wd}(h:TopV cl w v d)(hg:zeB T d=some r):∃t b,TyOf K w.H v t/\PySem.W.kitOne K t (.type T)=some b/\r=.bl b:=by
 unfold zeB at hg;split at hg
 ·rename_i hT;subst hT
  split at hg<;>cases hg
  ·obtain rfl:=h.intI;exact ⟨_,_,.int _,by with_unfolding_all rfl,rfl⟩
  ·obtain rfl:=h.blI;exact ⟨_,_,.bl _,by with_unfolding_all rfl,rfl⟩
  ·obtain rfl:=h.nonI;exact ⟨_,_,.non,by with_unfolding_all rfl,rfl⟩
  ·obtain rfl:=h.strI;exact ⟨_,_,.str _,by with_unfolding_all rfl,rfl⟩
  ·obtain ⟨_,_,rfl,e,_⟩:=h.tupI;exact ⟨_,_,.tup e,by with_unfolding_all rfl,rfl⟩
  ·obtain ⟨_,_,rfl,e,_⟩:=h.lstI;exact ⟨_,_,.lst e,by with_unfolding_all rfl,rfl⟩
 split at hg
 ·rename_i hT;subst hT
  split at hg<;>cases hg
  ·obtain rfl:=h.intI;exact ⟨_,_,.int _,by with_unfolding_all rfl,rfl⟩
  ·obtain rfl:=h.blI;exact ⟨_,_,.bl _,by with_unfolding_all rfl,rfl⟩
  ·obtain rfl:=h.nonI;exact ⟨_,_,.non,by with_unfolding_all rfl,rfl⟩
  ·obtain rfl:=h.strI;exact ⟨_,_,.str _,by with_unfolding_all rfl,rfl⟩
  ·obtain ⟨_,_,rfl,e,_⟩:=h.tupI;exact ⟨_,_,.tup e,by with_unfolding_all rfl,rfl⟩
  ·obtain ⟨_,_,rfl,e,_⟩:=h.lstI;exact ⟨_,_,.lst e,by with_unfolding_all rfl,rfl⟩
 split at hg
 ·rename_i hT;subst hT
  split at hg<;>cases hg
  ·obtain rfl:=h.intI;exact ⟨_,_,.int _,by with_unfolding_all rfl,rfl⟩
  ·obtain rfl:=h.blI;exact ⟨_,_,.bl _,by with_unfolding_all rfl,rfl⟩
  ·obtain rfl:=h.nonI;exact ⟨_,_,.non,by with_unfolding_all rfl,rfl⟩
  ·obtain rfl:=h.strI;exact ⟨_,_,.str _,by with_unfolding_all rfl,rfl⟩
  ·obtain ⟨_,_,rfl,e,_⟩:=h.tupI;exact ⟨_,_,.tup e,by with_unfolding_all rfl,rfl⟩
  ·obtain ⟨_,_,rfl,e,_⟩:=h.lstI;exact ⟨_,_,.lst e,by with_unfolding_all rfl,rfl⟩
 split at hg
 ·rename_i hT;subst hT
  split at hg<;>cases hg
  ·obtain rfl:=h.intI;exact ⟨_,_,.int _,by with_unfolding_all rfl,rfl⟩
  ·obtain rfl:=h.blI;exact ⟨_,_,.bl _,by with_unfolding_all rfl,rfl⟩
  ·obtain rfl:=h.nonI;exact ⟨_,_,.non,by with_unfolding_all rfl,rfl⟩
  ·obtain rfl:=h.strI;exact ⟨_,_,.str _,by with_unfolding_all rfl,rfl⟩
  ·obtain ⟨_,_,rfl,e,_⟩:=h.tupI;exact ⟨_,_,.tup e,by with_unfolding_all rfl,rfl⟩
  ·obtain ⟨_,_,rfl,e,_⟩:=h.lstI;exact ⟨_,_,.lst e,by with_unfolding_all rfl,rfl⟩
 split at hg
 ·rename_i hT;subst hT
  split at hg<;>cases hg
  ·obtain rfl:=h.intI;exact ⟨_,_,.int _,by with_unfolding_all rfl,rfl⟩
  ·obtain rfl:=h.blI;exact ⟨_,_,.bl _,by with_unfolding_all rfl,rfl⟩
  ·obtain rfl:=h.nonI;exact ⟨_,_,.non,by with_unfolding_all rfl,rfl⟩
  ·obtain rfl:=h.strI;exact ⟨_,_,.str _,by with_unfolding_all rfl,rfl⟩
  ·obtain ⟨_,_,rfl,e,_⟩:=h.tupI;exact ⟨_,_,.tup e,by with_unfolding_all rfl,rfl⟩
  ·obtain ⟨_,_,rfl,e,_⟩:=h.lstI;exact ⟨_,_,.lst e,by with_unfolding_all rfl,rfl⟩
 ·cases hg
theorem zl3:bootBuiltins "isinstance" = some (.builtin "isinstance"):=by decide +kernel
def zpm(hg:Gl X "isinstance")(hm:X.mg "isinstance" = none)(hgT:Gl X x)(hmT:X.mg x=none)(hvT:bootBuiltins x=some (.type T))(hn:x ≠ "__name__")(hdb:(x == ("__debug__":Str))=false)(hp:zbq e=true)(he:PE X e (tH cl E f)) :
  PE X (.Call (.Name "isinstance" p) [e,.Name x p2] [] pos) (tE cl E (eUn (zeB T) f)):=by
 refine PE.imp (zeH zin hg hm zl3 (za7 he (za7 (zpF (v:=.ty T) hgT hmT hvT rfl hn hdb) zcF rfl) (zaN hp)) (he:=zaN hp) (hpl:=rfl)) ?_;rintro σ H Q ⟨B,w,ρ,S,rfl,R,q⟩;refine ⟨B,w,ρ,S,rfl,R,?_⟩;unfold eUn at q
 cases hf:f ρ S with
 | bad=>rwa [hf] at q
 | exc c S1=>rwa [hf] at q
 | ok d S1 =>
  rw [hf] at q;intro v w1 R1 F1 h1;dsimp only [Out.bind] at q
  cases hg:zeB T d with
  | none=>rw [hg] at q;exact q.elim
  | some r =>
   rw [hg] at q;obtain ⟨t,b,h2,h3,rfl⟩:=zqh (K:=X.K) (h1.top R1) hg;exact ⟨v,t,T,b,rfl,h2,h3,q _ w1 R1 F1 (.bl _)⟩
def zax(f:Fe):Fi:=fun ρ S=>(f ρ S).bind fun d S1=>match d with | .lst l=>.ok l S1 | .tup l=>.ok l S1 | _=>.bad
def zrB(hK:X.K=cl.K)(he:PE X e (tE cl E f)):PI X tg e (tI cl E (zax f)):=by
 intro pins s σ H R' I q;obtain ⟨B,w,ρ,S,rfl,R,q⟩:=q;unfold zax at q
 cases hf:f ρ S with
 | bad=>rw [hf] at q;exact q.elim
 | exc c S1 =>
  refine zkC he pins s σ w.H R' I ⟨B,w,ρ,S,rfl,R,?_⟩;unfold zjh;rw [hf] at q ⊢;exact q
 | ok d S1 =>
  rw [hf] at q;dsimp only [Out.bind] at q
  cases d with
  | lst l =>
   refine zkC he pins s σ w.H R' I ⟨B,w,ρ,S,rfl,R,?_⟩;unfold zjh;rw [hf];exact q
  | tup l =>
   refine zrz he pins s σ w.H R' I ⟨B,w,ρ,S,rfl,R,?_⟩;unfold zim;rw [hf];exact q
  | _=>exact q.elim
end
end S2
namespace L2
open PySem PySem.Spec PyProof.Rows
noncomputable abbrev IsT(h:Heap)(T:Addr)(os:List Value):Prop:=h.get? T=some { cls:=.type "tuple",data:=.seq os.toArray }
noncomputable abbrev Stops(h:Heap)(e:Addr):Prop:=∃o,h.get? e=some o/\o.cls=.type "StopIteration"
structure ZSt(a l m i:Nat)(f:Value)(h:Heap):Prop where
 z:IsZip h (a+4) (a+2) (a+3) f
 ti:IsT h (a+2) [.ref a,.ref (a+1)]
 to:∃x y,IsT h (a+3) [x,y]
 i1:h.IsTupleIter a l i
 i2:h.IsTupleIter (a+1) m i
section
variable{prog:Program}{w:World}{A:Around}{E:Z5}{s:Shared}{a l m k:Nat}{us vs:Array Value}
def zix{h h':Heap}{t:Addr}(p:h.IsTuple t vs)(q:∀o,h.get? t=some o->h'.get? t=some o):h'.IsTuple t vs:=by
 obtain ⟨o,ho,r⟩:=p;exact ⟨o,q o ho,r⟩
def zoL{β:Type}{f:Value×Nat->β->Sem (ForInStep β)}{b:β}{Q:β->Shared->Prop}{x0 y0:Value}
  (hf:∀(c l n:Nat) (vs:Array Value) (os:List Value) (s:Shared) (Q:ForInStep β->Shared->Prop),l<c->c<a+3->os.length=2->IsZip s.heap (a+4) (a+2) (a+3) .ellipsis->IsT s.heap (a+3) os->s.heap.IsTupleIter c l k->s.heap.IsTuple l vs->k<=vs.size →
   (∀x h' tk,vs[k]?=some x->IsT h' (a+3) (os.set n x)->h'.IsTupleIter c l (k+1)->h'.objs.size=s.heap.objs.size->(∀(d:Nat) (o:Obj),d≠a+3->d≠c->s.heap.get? d=some o->h'.get? d=some o)->Q (.yield b) { s with heap:=h',toks:=tk }) →
   (k=vs.size->∀h' e tk,(∀(d:Nat) (o:Obj),d≠a+4->d≠c->s.heap.get? d=some o->h'.get? d=some o)->Stops h' e->E (.ref e) { s with heap:=h',toks:=tk })->wpAny (model prog w) A (f (.ref c,n) b) Q E s)
  (hl:l<a) (hm:m<a) (hz:IsZip s.heap (a+4) (a+2) (a+3) .ellipsis) (hO:IsT s.heap (a+3) [x0,y0]) (h1:s.heap.IsTupleIter a l k) (h2:s.heap.IsTupleIter (a+1) m k) (hu:s.heap.IsTuple l us) (hv:s.heap.IsTuple m vs) (hk:k<=us.size) (hk2:k<=vs.size)
  (hQ:∀x y h' tk,us[k]?=some x->vs[k]?=some y->IsT h' (a+3) [x,y]->h'.IsTupleIter a l (k+1)->h'.IsTupleIter (a+1) m (k+1)->h'.objs.size=s.heap.objs.size->(∀(d:Nat) (o:Obj),d≠a->d≠a+1->d≠a+3->s.heap.get? d=some o->h'.get? d=some o)->Q b { s with heap:=h',toks:=tk })
  (hE:(k=us.size\/k=vs.size)->∀h' e tk,(∀(d:Nat) (o:Obj),(d<a\/a+4<d)->s.heap.get? d=some o->h'.get? d=some o)->Stops h' e->E (.ref e) { s with heap:=h',toks:=tk }) :
  wpAny (model prog w) A (forIn [((.ref a:Value),0),(.ref (a+1),1)] b f) Q E s:=by
 rw [ycP];refine yaa (hf a l 0 us _ s _ hl (by omega) rfl hz hO h1 hu hk (fun x g tk hx hO1 hI1 hs1 k1=>?_) (fun e h' e' tk k1=>hE (.inl e) h' e' tk fun d o p q=>k1 d o (by omega) (by omega) q));show wpAny _ _ (forIn [((.ref (a+1):Value),1)] b f) _ _ _;rw [ycP];refine yaa (hf (a+1) m 1 vs _ _ _ (by omega) (by omega) rfl (k1 _ _ (by omega) (by omega) hz) hO1 (h2.at fun o e=>k1 _ o (by omega) (by omega) e) (zix hv fun o e=>k1 _ o (by omega) (by omega) e) hk2 (fun y g2 tk2 hy hO2 hI2 hs2 k2=>?_) (fun e h' e' tk' k2=>hE (.inr e) h' e' tk' fun d o p q=>k2 d o (by omega) (by omega) (k1 d o (by omega) (by omega) q)));exact yae (hQ x y g2 tk2 hx hy hO2 (hI1.at fun o e=>k2 _ o (by omega) (by omega) e) hI2 (hs2.trans hs1) fun d o p1 p2 p3 e=>k2 d o p3 p2 (k1 d o p3 p1 e))
theorem ziu{Q:Z5}(hh:A.handled=none)(Z:ZSt a l m k .none s.heap)(hl:l<a)(hm:m<a)(hu:s.heap.IsTuple l us)(hv:s.heap.IsTuple m vs)(hk:k<=us.size)(hk2:k<=vs.size)
  (hQ:∀x y h' tk,us[k]?=some x->vs[k]?=some y->ZSt a l m (k+1) (rawInt s.heap.objs.size) h'->IsT h' s.heap.objs.size [x,y]->(∀(c:Nat) (o:Obj),(c<a\/a+4<c)->s.heap.get? c=some o->h'.get? c=some o)->Q (.ref s.heap.objs.size) { s with heap:=h',toks:=tk })
  (hE:(k=us.size\/k=vs.size)->∀h' e tk,(∀(c:Nat) (o:Obj),(c<a\/a+4<c)->s.heap.get? c=some o->h'.get? c=some o)->Stops h' e->E (.ref e) { s with heap:=h',toks:=tk }) :
  wpAny (model prog w) A (Builtin.«zip.__next__» ⟨[.ref (a+4)],[]⟩) (fun fin s'=>∃v,fin=.done (.ret v)/\Q v s') E s:=by
 obtain ⟨hz,hI,⟨x0,y0,hO⟩,h1,h2⟩:=Z;show wpAny _ _ (field (.ref (a+4)) 2 >>= _) _ _ _;refine yaa (ybA hz rfl (x:=.bool false) rfl ?_);show wpAny _ _ (field (.ref (a+4)) 3 >>= _) _ _ _;refine yaa (ybA hz rfl (x:=.ref (a+2)) rfl ?_);refine yaa (ybv hI rfl ?_);show wpAny _ _ (Builtin.SmallTypes.ownedTupleIsFree (.ref (a+4)) >>= _) _ _ _;refine yaa ?_;unfold Builtin.SmallTypes.ownedTupleIsFree;refine yaa (ybA hz rfl (x:=.none) rfl (yae ?_));simp only [ybT];refine yaa (ycL ?_);refine yaa (ybA hz rfl (x:=.ref (a+3)) rfl ?_);refine yaa (yci hz (by simp) fun g hz₁ hs₁=>?_);replace hz₁:IsZip g (a+4) (a+2) (a+3) .ellipsis:=hz₁;have k₁:∀(c:Nat) (o:Obj),c≠a+4->s.heap.get? c=some o->g.get? c=some o:=fun c o hc e=>hs₁.extBut _ _ hc e
 refine yaa (zoL (a:=a) (l:=l) (m:=m) (k:=k) (us:=us) (vs:=vs) (fun c l n vs os s Q hc hb ho hz hO hI hv hk hx he=>?_) hl hm hz₁ (k₁ _ _ (by omega) hO) (h1.at fun o e=>k₁ _ o (by omega) e) (h2.at fun o e=>k₁ _ o (by omega) e) (zix hu fun o e=>k₁ _ o (by omega) e) (zix hv fun o e=>k₁ _ o (by omega) e) hk hk2 (fun x y h₂ tk hx hy hO₂ i1 i2 hs₂ k₂=>?_) (fun e h' e' tk k'=>hE e h' e' tk fun c o hc q=>k' c o hc (k₁ c o (by omega) q)))
 ·have D:=zhz (prog:=prog) (w:=w) hh c l (yax hc) vs;refine yaa (wpAny_onRaise ?_);show wpAny _ _ (Builtin.SmallTypes.nextOf (.ref c) >>= _) _ _ _
  rcases Nat.lt_or_eq_of_le hk with hlt | rfl
  ·refine yaa (D.item k _ _ _ hlt ⟨hI,hv⟩ fun x h₂ tk₂ px hI₂ hs₂=>yae ?_);have hO₂:IsT h₂ (a+3) os:=hs₂.extBut _ _ (ya6 hb) hO;refine yaa (ybv hO₂ rfl ?_)
   have h9:os.length<=9:=by omega
   refine yaa (wpAny_updateSeq hO₂ rfl ?_ (by simp;exact yak h9 (by decide)) (by simp;exact yak h9 (by decide)));have hs₃:=Heap.SameBut.update h₂ (a+3) (Obj.mapSeq (·.setIfInBounds n x));refine yaa (wpAny_letGo (yae (hx x _ tk₂ px ?_ (hI₂.1.at fun o e=>hs₃.extBut _ _ (yax hb) e) (hs₃.1.trans hs₂.1) fun d o c1 c2 e=>hs₃.extBut _ _ c1 (hs₂.extBut _ _ c2 e))));show Heap.get? _ (a+3)=_;rw [ybp _ hO₂ rfl];simp [Obj.mapSeq]
  ·refine yaa (D.done _ _ _ ⟨hI,hv⟩ fun h₂ e hs₂ hs=>?_);obtain ⟨oe,hoe,hce⟩:=hs;have hz₂:=hs₂ _ _ (show a+4≠c by omega) hz
   have hez:e≠a+4:=fun x=>by subst x;rw [hz₂] at hoe;cases hoe;simp at hce
   exact yci hz₂ (by simp) fun h₃ _ hs₃=>he rfl h₃ e _ (fun d o c1 c2 q=>hs₃.extBut _ _ c1 (hs₂ _ _ c2 q)) ⟨oe,hs₃.extBut _ _ hez hoe,hce⟩
 ·refine yaa (ybv hO₂ rfl ?_);refine yaa (wpAny_newTuple ?_ (hsz:=by show (2:Nat)<=_;decide));have hz₂:IsZip h₂ (a+4) (a+2) (a+3) .ellipsis:=k₂ _ _ (by omega) (by omega) (by omega) hz₁;have hsz:h₂.objs.size=s.heap.objs.size:=hs₂.trans hs₁.1;show wpAny _ _ (Builtin.SmallTypes.ownedTupleHandOut (.ref (a+4)) (.ref h₂.objs.size) >>= _) _ _ _;refine yaa ?_;unfold Builtin.SmallTypes.ownedTupleHandOut;refine yaa (yci (yag _ hz₂) (by simp) fun h₄ hz₄ hs₄=>?_);replace hz₄:IsZip h₄ (a+4) (a+2) (a+3) (rawInt h₂.objs.size):=hz₄;refine yci hz₄ (by simp) fun h₅ hz₅ hs₅=>?_
  replace hz₅:IsZip h₅ (a+4) (a+2) (a+3) (rawInt h₂.objs.size):=hz₅;have lt:a+4<h₂.objs.size:=yar hz₂;have up:∀(c:Nat) (o:Obj),c≠a+4->h₂.get? c=some o->h₅.get? c=some o:=fun c o c1 e=>hs₅.extBut _ _ c1 (hs₄.extBut _ _ c1 (yag _ e))
  have hT:IsT h₅ h₂.objs.size [x,y]:=hs₅.extBut _ _ (ya6 lt) (hs₄.extBut _ _ (ya6 lt) (yao _ rfl));rw [hsz] at hz₅ hT;refine yae ⟨_,rfl,?_⟩;show Q (.ref h₂.objs.size) _;rw [hsz];exact hQ x y h₅ tk hx hy ⟨hz₅,up _ _ (by omega) (k₂ _ _ (by omega) (by omega) (by omega) (k₁ _ _ (by omega) hI)),⟨x,y,up _ _ (by omega) hO₂⟩,i1.at fun o e=>up _ o (by omega) e,i2.at fun o e=>up _ o (by omega) e⟩ hT fun c o hc e=>up c o (by omega) (k₂ c o (by omega) (by omega) (by omega) (k₁ c o (by omega) e))
def zlj:Meets (Builtin.«zip.__new__» ⟨[.type "zip",.ref l,.ref m],[]⟩) (fun _ R s=>s.heap.IsTuple l us/\s.heap.IsTuple m vs ∧
   ∀h' n,n=s.heap.objs.size->(∀(c:Nat) (o:Obj),s.heap.get? c=some o->h'.get? c=some o)->ZSt n l m 0 .none h'->R (.ok (.ret (.ref (n+4)))) { s with heap:=h' }) :=
 .of_wp fun prog w A R s h=>by
  obtain ⟨hp,g,d,tk,os⟩:=s;obtain ⟨hl1,hl2,h⟩:=h;have hsub:=sub_zip;have hL1:Heap.IsTuple (Shared.heap ⟨hp,g,d,tk,os⟩) l us:=hl1;have hL2:Heap.IsTuple (Shared.heap ⟨hp.push { cls:=.type "tuple_iterator",data:=.fields #[.ref l,.int 0 0] },g,d,tk,os⟩) m vs:=zix hl2 fun o e=>yag _ e
  wp_walk using ybI hL1,ybI hL2
  refine ⟨_,rfl,?_⟩;have p {h:Heap} {o':Obj} {a:Addr} {o:Obj} (e:h.get? a=some o):(h.push o').get? a=some o:=yag _ e
  have u:∀{h:Heap} {o:Obj} {a:Addr},a=h.objs.size->o.isFreed=false->(h.push o).get? a=some o:=fun e ho=>by rw [e];exact yao _ ho
  simp only [ya0];exact h _ _ rfl (fun c o e=>p (p (p (p (p e))))) ⟨u (by simp only [ya0]) rfl,p (p (u (by simp only [ya0]) rfl)),⟨_,_,p (u (by simp only [ya0]) rfl)⟩,⟨_,p (p (p (p (u rfl rfl)))),rfl,rfl⟩,⟨_,p (p (p (u (by simp only [ya0]) rfl))),rfl,rfl⟩⟩
end
noncomputable def zFp(a:Nat):List Addr:=(List.range 5).map (a+·)
theorem zd8{a b:Nat}:b∈zFp a↔a<=b/\b<a+5:=by
 unfold zFp;rw [yat];exact ⟨fun ⟨j,hj,e⟩=>by rw [ybc] at hj;have e:a+j=b:=e;omega,fun ⟨h1,h2⟩=>⟨b-a,ybc.mpr (by omega),by show a+(b-a)=b;omega⟩⟩
theorem zhP{a b:Nat}(h:b ∉ zFp a):b<a\/a+4<b:=by rw [zd8] at h;omega
def ZSt.keep{a l m i:Nat}{f:Value}{h h':Heap}(Z:ZSt a l m i f h)(k:∀(c:Nat) (o:Obj),a<=c->c<a+5->h.get? c=some o->h'.get? c=some o):ZSt a l m i f h' :=
 ⟨k _ _ (by omega) (by omega) Z.z,k _ _ (by omega) (by omega) Z.ti,let ⟨x,y,e⟩:=Z.to;⟨x,y,k _ _ (by omega) (by omega) e⟩,Z.i1.at fun o e=>k _ o (by omega) (by omega) e,Z.i2.at fun o e=>k _ o (by omega) (by omega) e⟩
section
variable{X:Cx}{pins:Z3}{σ:St}{H:Hp}{s:Shared}
noncomputable def ItZ(l m:Addr):It :=
 ⟨fun i H=>∃xs ys,H l=some (.tup xs)/\H m=some (.tup ys)/\i<xs.length/\i<ys.length,
  fun i H v H'=>∃t x y xs ys,v=.ref t/\H t=none/\H'=upd H t (.tup [x,y])/\H l=some (.tup xs)/\H m=some (.tup ys)/\xs[i]?=some x/\ys[i]?=some y,
  fun i H=>∃xs ys,H l=some (.tup xs)/\H m=some (.tup ys)/\i<=xs.length/\i<=ys.length/\(i=xs.length\/i=ys.length)⟩
def zoM{fp:List Addr}{T:Addr}{h2:Heap}{tk:Nat}{us:List Value}{ys:List V}(I:Inv X pins σ H s)(hf:∀b∈fp,zmi X pins H b)(hT:T=s.heap.objs.size)(te:IsT h2 T us)
  (k:∀b o,b ∉ fp->s.heap.get? b=some o->h2.get? b=some o) (r:Vals ys us) (h9:us.length<=9):Inv X pins σ (upd H T (.tup ys)) { s with heap:=h2,toks:=tk }/\H T=none:=by
 have fr:H T=none:=by rw [hT];exact I.hok.fresh (yaj _)
 refine ⟨?_,fr⟩;have I1:Inv X pins σ H { s with heap:=h2,toks:=tk }:=I.turnedL (ch:=fp) (fun b o hb q=>k b o hb q) hf;refine I1.track fr (by rw [hT];exact I.sz) (by rw [hT];exact ya6 I.lt) (fun z c q=>?_) (fun p hp=>?_) ?_
 ·obtain ⟨v,cq⟩:=I.cell z c q;rw [hT];exact yax cq.lt
 ·rw [hT];exact yax (yar (I.pin p hp).1)
 ·exact ⟨yak (r.length ▸ h9) (by decide),us,r,_,te,rfl,_,rfl,rfl⟩
theorem zmn{P:Program}{w:World}{K:PySem.W.Frag}{elts:List Expr}{x1:Nat}{pos:Pos}{a l m:Nat}(hl:l<a)(hm:m<a) :
  Turn P w K (.Tuple elts x1 pos) (ItZ l m) (zFp a) (a+4) (fun i h=>ZSt a l m i .none h) where
 mem:=zd8.mpr (by omega)
 obj:=fun i h st b hb=>by
  obtain ⟨hz,hI,⟨x,y,hO⟩,⟨o1,e1,_,d1⟩,⟨o2,e2,_,d2⟩⟩:=st;obtain ⟨h1,h2⟩:=zd8.mp hb;obtain ⟨j,rfl⟩:∃j,b=a+j:=⟨b-a,(Nat.add_sub_cancel' h1).symm⟩
  match j,h2 with
  | 0,_=>exact ⟨_,e1,fun v e=>by rw [d1] at e;cases e⟩
  | 1,_=>exact ⟨_,e2,fun v e=>by rw [d2] at e;cases e⟩
  | 2,_=>exact ⟨_,hI,fun v e=>by cases e⟩
  | 3,_=>exact ⟨_,hO,fun v e=>by cases e⟩
  | 4,_=>exact ⟨_,hz,fun v e=>by cases e⟩
  | j+5,h=>omega
 keep:=fun i h h' st k=>st.keep fun c o c1 c2 e=>k _ (zd8.mpr ⟨c1,c2⟩) _ e
 item:=by
  intro X hP hw hK hc i pins s σ H E I hf st hg;subst hP hw hK;obtain ⟨xs,ys,g1,g2,hi,hj⟩:=hg;obtain ⟨us,ru,t1,_⟩:=I.tuple (SqT.of g1);obtain ⟨vs,rv,t2,_⟩:=I.tuple (SqT.of g2);have hT:s.TypeIs (.ref (a+4)) "zip":=⟨_,st.z,rfl⟩;unfold pyNext
  refine yaa (ycJ (yaV (name:=Str.ofString "__next__") hT ycR (yaU ycR hT F.entry_zip_next
   (ziu (A:=X.A.in1) (I.ok.hd hc) st hl hm t1 t2 (by rw [yah,<-ru.length];exact yca hi) (by rw [yah,<-rv.length];exact yca hj) (fun x y h' tk hx hy a1 a4 a5=>yae ?_)
    (fun e=>by rw [yah,yah,<-ru.length,<-rv.length] at e;omega)) (F.args_zip_next_1 _))))
  have ltz:a+4<s.heap.objs.size:=yar st.z;refine ⟨_,rfl,wpAny_letOwnedTupleGo_zip a1.z fun h2' hz2 sb=>?_⟩;have kb:∀(c:Nat) (o:Obj),c≠a+4->h'.get? c=some o->h2'.get? c=some o:=fun c o hc e=>(sb.2 c hc).trans e
  obtain ⟨x',hx1,hx2⟩:=ru.get (yab hi);obtain ⟨y',hy1,hy2⟩:=rv.get (yab hj);rw [List.getElem?_toArray,hx1] at hx;cases hx;rw [List.getElem?_toArray,hy1] at hy;cases hy;obtain ⟨I2,fr⟩:=zoM (tk:=tk) (h2:=h2') I hf rfl (kb _ _ (ya6 ltz) a4) (fun b o hb q=>kb b o (by have:=zhP hb;omega) (a5 b o (zhP hb) q)) (.cons hx2 (.cons hy2 .nil)) (by simp);refine ⟨.ref s.heap.objs.size,_,I2,rfl,⟨_,_,_,xs,ys,rfl,fr,rfl,g1,g2,yab hi,yab hj⟩,⟨hz2,kb _ _ (by omega) a1.ti,let ⟨x,y,e⟩:=a1.to;⟨x,y,kb _ _ (by omega) e⟩,a1.i1.at fun o e=>kb _ o (by omega) e,a1.i2.at fun o e=>kb _ o (by omega) e⟩,fun b hb=>?_⟩;rw [zao (fun e=>by have:=(zd8.mp (e ▸ hb)).2;omega)];exact (hf b hb).1
 done:=by
  intro X hP hw hK hc i pins s σ H E I hf st hg;subst hP hw hK;obtain ⟨xs,ys,g1,g2,h1,h2,hi⟩:=hg;obtain ⟨us,ru,t1,_⟩:=I.tuple (SqT.of g1);obtain ⟨vs,rv,t2,_⟩:=I.tuple (SqT.of g2);have hT:s.TypeIs (.ref (a+4)) "zip":=⟨_,st.z,rfl⟩;unfold pyNext
  refine yaa (ycJ (yaV (name:=Str.ofString "__next__") hT ycR (yaU ycR hT F.entry_zip_next
   (ziu (A:=X.A.in1) (I.ok.hd hc) st hl hm t1 t2 (by rw [yah,<-ru.length];exact h1) (by rw [yah,<-rv.length];exact h2) (fun x y h' tk hx hy=>by
     have e1:=(yb2.mp hx).1;have e2:=(yb2.mp hy).1;rw [yah,<-ru.length] at e1;rw [yah,<-rv.length] at e2
     omega) (fun _ h' e tk hk he'=>?_)) (F.args_zip_next_1 _))))
  obtain ⟨o,ho,hcl⟩:=he';refine yaa (ybS (T:="StopIteration") (b:=true) ⟨o,ho,hcl⟩ isSubtype_stop ?_);exact yae ⟨rfl,I.turnedL (ch:=zFp a) (fun b o hb q=>hk b o (zhP hb) q) hf⟩
 self:=fun _ _ _ _ _ st h=>wpAny_pyIter_zip st.z h
theorem znR:bootBuiltins "zip" = some (.type "zip"):=by decide +kernel
def zq1(I1:Inv X pins σ H1 s1)(g1:H1 l=some (.tup xs))(g2:H1 m=some (.tup ys))(q:R (ItZ l m) H1) :
  wpAny (model X.prog X.w) X.A (call (.type "zip") [.ref l,.ref m]) (fun v s2=>wpAny (model X.prog X.w) X.A (pyIter v) (PIE X pins σ (.Tuple elts x1 tp) R) X.xe s2) X.xe s1:=by
 obtain ⟨us,ru,t1,_⟩:=I1.tuple (SqT.of g1);obtain ⟨vs,rv,t2,_⟩:=I1.tuple (SqT.of g2);refine callType_new F.called_zip (by decide) (F.typeCall_zip_2 _ _) (F.newCall_zip_2 _ _) (fun o=>F.args_object_init_3 o _ _) F.entry_zip_new zlj ⟨t1,t2,fun h' n hn hk Z=>?_⟩;refine ⟨⟨_,Z.z,rfl⟩,wpAny_pyIter_zip Z.z ?_⟩;refine ⟨n+4,zFp n,_,_,H1,rfl,I1.kept (t':=s1.toks) hk,zmn ?_ ?_,Z,fun c hb=>?_,q⟩
 ·obtain ⟨o,ho,_⟩:=t1;rw [hn];exact yar ho
 ·obtain ⟨o,ho,_⟩:=t2;rw [hn];exact yar ho
 ·have hc:s1.heap.objs.size<=c:=hn ▸ (zd8.mp hb).1;exact I1.fpOk hc (I1.hok.fresh hc)
end
end L2
namespace S2
open PySem PySem.Spec PyProof.Rows L2
section
variable{X:Cx}{cl:Cf}{E:St->XK}{e tg:Expr}{f:Fe}{own:Bool}{pos pos':Pos}
noncomputable def zyS:List D->Option D | [.int i,.int j]=>some (.int (if j<i then j else i)) | _=>none
noncomputable def zfm(l:List D):List D:=l.zipIdx.map fun p=>.tup [.int p.2,p.1]
def zhv(l:List D):(zfm l).length=l.length:=by unfold zfm;rw [yad,List.length_zipIdx]
def zhw{l:List D}{i:Nat}{d:D}(h:(zfm l)[i]?=some d):∃y,l[i]?=some y/\d=.tup [.int i,y]:=by
 unfold zfm at h;rw [yal,List.getElem?_zipIdx] at h
 cases hl:l[i]? with
 | none=>rw [hl] at h;cases h
 | some y =>
  rw [hl] at h;refine ⟨y,rfl,?_⟩;have:=Option.some.inj h;rw [<-this];simp
def zlP(f:Fe):Fi:=fun ρ S=>(zal [f] ρ S).bind fun ds S1=>match ds with | [.tup l]=>.ok (zfm l) S1 | _=>.bad
theorem zs1(hS:∀w',Fut w w'->S w'.H a xs)(r:Shds cl w xs l):ItOk cl w (ItE S a) (zfm l):=by
 have hl:=r.length;have hel:=zhv l;refine ⟨fun w1 F1 i hi=>⟨xs,xs[i]'(by omega),hS w1 F1,yab (by omega)⟩,fun w1 F1=>⟨xs,hS w1 F1,by omega⟩,fun w1 F1 i d x H1 hd y=>?_⟩;obtain ⟨t,v,rfl,ht,rfl,hy⟩:=y;obtain ⟨z,hz,rfl⟩:=zhw hd;have hv:=hy xs (hS w1 F1);obtain ⟨d',e1,e2⟩:=r.get hv;rw [hz] at e1;cases e1;exact ⟨w1.add t _,rfl,zau ht _,Shd.newT ht (.cons (.int _) (.cons (e2.up F1) .nil))⟩
def zpf(hg:Gl X "enumerate")(hm:X.mg "enumerate" = none)(ha:PA X [e] (tAs cl E [f]))(hs:starEach [e] X.env=[(false,eval e X.env)]):PI X (.Tuple es kk tp) (.Call (.Name "enumerate" p) [e] [] pos) (tI cl E (zlP f)):=by
 intro pins s σ H R' I q;obtain ⟨B,w,ρ,S,rfl,R,q⟩:=q;unfold zlP at q;have T:=zmQ (elts:=es) (x1:=kk) (tp:=tp) (p:=p) (pos:=pos) hg hm ha rfl hs pins s σ w.H R' I
 cases hf:zal [f] ρ S with
 | bad=>rw [hf] at q;exact q.elim
 | exc c S1 =>
  refine T ⟨B,w,ρ,S,rfl,R,?_⟩;rw [hf] at q ⊢;exact q
 | ok ds S1 =>
  rw [hf] at q;dsimp only [Out.bind] at q;split at q
  ·rename_i l' S' hm';split at hm'
   ·rename_i l;cases hm';refine T ⟨B,w,ρ,S,rfl,R,?_⟩;rw [hf];intro vs w' R2 F2 sh
    cases sh with
    | cons h1 h2 =>
     cases h2
     cases h1 with
     | tup ep k r=>exact ⟨_,rfl,⟨_,SqT.of ep⟩,q _ w' R2 F2 (zs1 (fun w1 F1=>SqT.of (F1.keep _ _ ep k).1) r)⟩
   ·cases hm'
  ·rename_i hm';split at hm'<;>cases hm'
  ·exact q.elim
noncomputable def zgG:List D->List D->List D
 | x::xs,y::ys=>.tup [x,y]::zgG xs ys
 | _,_=>[]
theorem ziv:∀(xs ys:List D),(zgG xs ys).length=min xs.length ys.length
 | [],_=>by simp [zgG]
 | _::_,[]=>by simp [zgG]
 | _::xs,_::ys=>by simp [zgG,ziv xs ys]
theorem zeD:∀{xs ys:List D} {i:Nat} {d:D},(zgG xs ys)[i]?=some d->∃x y,xs[i]?=some x/\ys[i]?=some y/\d=.tup [x,y]
 | [],_,_,_,h=>by simp [zgG] at h
 | _::_,[],_,_,h=>by simp [zgG] at h
 | x::xs,y::ys,0,d,h=>by
  simp only [zgG,List.getElem?_cons_zero,Option.some.injEq] at h;exact ⟨x,y,rfl,rfl,h.symm⟩
 | x::xs,y::ys,i+1,d,h=>by
  simp only [zgG,ycj] at h ⊢;exact zeD h
def zqt(f g:Fe):Fi:=fun ρ S=>(zal [f,g] ρ S).bind fun ds S1=>match ds with | [.tup l,.tup k]=>.ok (zgG l k) S1 | _=>.bad
theorem zs0(h1:∀w',Fut w w'->w'.H l1=some (.tup xs))(h2:∀w',Fut w w'->w'.H l2=some (.tup ys))(r1:Shds cl w xs ds)(r2:Shds cl w ys es):ItOk cl w (ItZ l1 l2) (zgG ds es):=by
 have e1:=r1.length;have e2:=r2.length;have el:=ziv ds es;refine ⟨fun w1 F1 i hi=>⟨xs,ys,h1 w1 F1,h2 w1 F1,by omega,by omega⟩,fun w1 F1=>⟨xs,ys,h1 w1 F1,h2 w1 F1,by omega,by omega,by omega⟩,fun w1 F1 i d x H1 hd y=>?_⟩;obtain ⟨t,v1,v2,xs',ys',rfl,ht,rfl,g1,g2,hx,hy⟩:=y;obtain ⟨z1,z2,hz1,hz2,rfl⟩:=zeD hd;cases (h1 w1 F1).symm.trans g1;cases (h2 w1 F1).symm.trans g2;obtain ⟨d1,q1,s1⟩:=r1.get hx;obtain ⟨d2,q2,s2⟩:=r2.get hy;rw [hz1] at q1;cases q1;rw [hz2] at q2;cases q2;exact ⟨w1.add t _,rfl,zau ht _,Shd.newT ht (.cons (s1.up F1) (.cons (s2.up F1) .nil))⟩
def zry(hg:Gl X "zip")(hm:X.mg "zip" = none)(ha:PA X [a,e] (tAs cl E [fa,f]))(hs:starEach [a,e] X.env=(false,eval a X.env)::starEach [e] X.env)(hs2:(backTo pos (starEach [e] X.env)).any (·.1)=false):PI X (.Tuple es kk tp) (.Call (.Name "zip" p) [a,e] [] pos) (tI cl E (zqt fa f)):=by
 intro pins s σ H R' I q;refine Call_ (zeu I hg hm L2.znR (ya7 (thn (ha pos pins s σ H (fun vs H1=>∃l m xs ys,vs=[.ref l,.ref m]/\H1 l=some (.tup xs)/\H1 m=some (.tup ys)/\R' (ItZ l m) H1) I ?_) fun us s1 ⟨vs,H1,I1,r1,q1⟩=>?_) hs hs2))
 ·obtain ⟨B,w,ρ,S,rfl,R,q⟩:=q;refine ⟨B,w,ρ,S,rfl,R,?_⟩;dsimp only [zqt] at q
  cases hf:zal [fa,f] ρ S with
  | bad=>rw [hf] at q;exact q.elim
  | exc c S1=>rwa [hf] at q
  | ok ds S1 =>
   rw [hf] at q;dsimp only [Out.bind] at q;intro vs w' R2 F2 sh
   have hz:(∃l k,ds=[.tup l,.tup k])\/(match ds with | [.tup l,.tup k]=>Out.ok (zgG l k) S1 | _=>.bad)=.bad:=by
    split
    ·exact .inl ⟨_,_,rfl⟩
    ·exact .inr rfl
   rcases hz with ⟨l,k,rfl⟩ | e
   ·cases sh with
    | cons h1 h2 =>
     cases h2 with
     | cons h2 h3 =>
      cases h3
      cases h1 with
      | tup e1 k1 r1 =>
       cases h2 with
       | tup e2 k2 r2 =>
        exact ⟨_,_,_,_,rfl,(Fut.refl w').keep _ _ e1 k1 |>.1,(Fut.refl w').keep _ _ e2 k2 |>.1,q _ w' R2 F2 (zs0 (fun w1 F1=>(F1.keep _ _ e1 k1).1) (fun w1 F1=>(F1.keep _ _ e2 k2).1) r1 r2)⟩
   ·rw [e] at q;exact q.elim
 ·obtain ⟨l,m,xs,ys,rfl,g1,g2,q⟩:=q1
  cases r1 with
  | cons a1 r1 =>
   cases r1 with
   | cons a2 r1=>cases r1;cases a1;cases a2;exact zq1 I1 g1 g2 q
end
section
variable{X:Cx}{cl:Cf}{E:St->XK}{e:Expr}{f:Fe}{pos':Pos}
def eMt(g:List D->D->Option D)(i:Nat)(f:Fe):Fe:=fun ρ S=>match ρ[i]? with | some (some (_,.lst l))=>(f ρ S).bind fun d S1=>Out.of (g l d) S1 | _=>.bad
def zd5(l:List D)(d:D):Option D:=if d.fit 8&&D.fits 8 l then some (.int ((l.countP (zer · d):Nat):Int)) else none
def zdC(l:List D)(d:D):Option D:=if d.fit 8&&D.fits 8 l&&decide (l.length<=1000000)&&zi5 d l then some (.int ((l.findIdx (zer · d):Nat):Int)) else none
def Rel.lstAny{B:Base}{σ:St}{w:Wd}{ρ:Env}{S:Sto}{i:Nat}{o:Bool}{l:List D}(R:Rel cl B σ w ρ S)(h:ρ[i]?=some (some (o,.lst l))):∃a xs,σ[i]?=some (some (.ref a))/\w.H a=some (.lst xs)/\Shds cl w xs l:=by
 cases o with
 | true=>obtain ⟨a,xs,e1,_,h2,t⟩:=R.list h;exact ⟨a,xs,e1,h2,t⟩
 | false =>
  obtain ⟨v,e1,sh⟩:=R.slots i false _ h
  cases sh with
  | lst ep k r=>exact ⟨_,_,e1,ep,r⟩
noncomputable def MtB(X:Cx)(cl:Cf)(id:String)(g:List D->D->Option D):Prop:=MtM X id fun x vs H Q=>∃(a:Addr) (xs:List V) (l:List D) (w:Wd) (d:D) (v:V) (r:Int),w.H=H/\x=.ref a/\vs=[v]/\w.H a=some (.lst xs)/\Shds cl w xs l/\TopV cl w v d/\g l d=some (.int r)/\Q (.int r) H
theorem zex{s:Shared}{d:D}:∀{its:List Value} {ds:List D} {as:List Addr},ReadsAll s.heap its (D.pys ds) as->D.fits 8 ds=true->its.countP (fun y=>(SeqAt.readOf s.heap y).eqv d.py)=ds.countP (zer · d)
 | [],[],_,_,_=>rfl
 | [],_::_,_,h,_=>by cases h
 | _::_,[],_,h,_=>by cases h
 | v::its,e::ds,_,h,f=>by
  simp only [D.fits,yac] at f
  cases h with
  | cons h1 h2 =>
   rw [ycB,ycB,zex h2 f.2,zh9 (D.lay f.1).1 h1];rfl
theorem zed{s:Shared}{d:D}:∀{its:List Value} {ds:List D} {as:List Addr},ReadsAll s.heap its (D.pys ds) as->D.fits 8 ds=true->∀(m:Nat) (hm:m<its.length),∃e,ds[m]?=some e/\(SeqAt.readOf s.heap its[m]).eqv d.py=zer e d
 | [],_,_,_,_,m,hm=>by simp at hm
 | _::_,[],_,h,_,_,_=>by cases h
 | v::its,e::ds,_,h,f,m,hm=>by
  simp only [D.fits,yac] at f
  cases h with
  | cons h1 h2 =>
   cases m with
   | zero=>exact ⟨e,rfl,by show (SeqAt.readOf s.heap v).eqv d.py=_;rw [zh9 (D.lay f.1).1 h1];rfl⟩
   | succ m =>
    obtain ⟨e',h3,h4⟩:=zed h2 f.2 m (by simpa using hm);exact ⟨e',by simpa using h3,by simpa using h4⟩
theorem zfG{s:Shared}:∀{its:List Value} {ds:List D} {as:List Addr},ReadsAll s.heap its (D.pys ds) as->its.length=ds.length
 | [],[],_,_=>rfl
 | [],_::_,_,h=>by cases h
 | _::_,[],_,h=>by cases h
 | _::its,_::ds,_,h=>by
  cases h with
  | cons _ h2=>rw [yan,yan,zfG h2]
def zna(hK:X.K=cl.K)(hu:X.A.units+64<cLine):MtB X cl "list.count" zd5:=by
 intro pins s σ H x vs v us Q I rx rv h;obtain ⟨a,xs,l,w,d,v',r,rfl,rfl,rfl,hH,sh,tv,hg,q⟩:=h;unfold zd5 at hg;split at hg
 ·rename_i hf;cases hg;rw [yac] at hf;cases rx;obtain ⟨u,rfl,ru⟩:=rv.one;obtain ⟨bs,rb⟩:=zg6 I hK tv hf.1 ru;obtain ⟨z,its,n,r,hl,e⟩:=I.lstM hH;obtain ⟨as,ra⟩:=zdz I hK sh hf.2 r;refine ycc F.slot_list_count ⟨_,e,rfl⟩ F.entry_list_count (F.args_list_count_2 _ _) (SeqAt.list_countAt a _ n none #[] u (fun y=>(SeqAt.readOf s.heap y).eqv d.py)) ⟨e,fun y hy=>zb3 hu rb hf.1 ra hf.2 y hy,?_⟩;rw [zex ra hf.2];exact ⟨.int _,w.H,I.tok _,⟨_,rfl⟩,q⟩
 ·cases hg
def zuB{id:String}{ap cp:Pos}(slot:Slot "list" name id)(hty:typeOf (.builtin id)=pure (.type "method_descriptor"))(hm:MtB X cl id g)(hgb:∀l d r,g l d=some r->∃n,r=.int n)
  (hN:X.N[i]?=some x) (hv:Vis X.env.scope x) (hd:(x == ("__debug__":Str))=false) (hcd:(x == ("__classdict__":Str))=false) (he:PE X e (tH cl E f)) (hpl:zbq e=true) (hln:(ap.endLine == cp.line)=true) :
  PE X (.Call (.Attribute (.Name x pos') name ap) [e] [] cp) (tE cl E (eMt g i f)):=by
 refine PE.imp (zk2 (es:=[]) ybs slot hty hm (zcl hN hv hd hcd) (zhY he zkD (zaN hpl)) (hfew:=zfi (by simp [hpl]) (by simp)) (hline:=hln) (hs:=zaN hpl) (hplain:=rfl)) ?_;rintro σ H Q ⟨B,w,ρ,S,rfl,R,q⟩
 have key:(∃o l,ρ[i]?=some (some (o,.lst l)))\/eMt g i f ρ S=.bad:=by
  unfold eMt;split
  ·rename_i o l hl;exact .inl ⟨o,l,hl⟩
  ·exact .inr rfl
 rcases key with ⟨o,l,hl⟩ | hb
 ·have e':eMt g i f ρ S=(f ρ S).bind fun d S1=>Out.of (g l d) S1:=by unfold eMt;rw [hl]
  rw [e'] at q;obtain ⟨a,xs,e1,h2,t⟩:=R.lstAny hl;refine ⟨_,e1,.inl ⟨rfl,_,SqL.of h2⟩,B,w,ρ,S,rfl,R,?_⟩
  cases hf:f ρ S with
  | bad=>rw [hf] at q;exact q.elim
  | exc c S1 =>
   rw [hf] at q;simp only [zal,hf,Out.bind];exact q
  | ok d S1 =>
   rw [hf] at q;simp only [zal,hf,Out.bind];intro vs w' R' F' sh;dsimp only [Out.bind] at q
   cases hg:g l d with
   | none=>rw [hg] at q;exact q.elim
   | some r =>
    rw [hg] at q;obtain ⟨n,rfl⟩:=hgb l d r hg;obtain ⟨a',xs',e1',h2',t'⟩:=R'.lstAny hl;rw [e1] at e1';cases e1'
    cases sh with
    | cons h1 hn =>
     cases hn;exact ⟨a,xs',l,w',d,_,n,rfl,rfl,rfl,h2',t',h1.top R',hg,q _ w' R' F' (.int _)⟩
 ·rw [hb] at q;exact q.elim
end
noncomputable def zzw(g:Str->Str->Option Bool)(C:Str):D->Option D
 | .exc c=>(g c C).map .bl
 | _=>none
noncomputable def zxV(cl:Cf)(C:Str):Value:=if C = "ValueError" then .type "ValueError" else .ref (cl C)
section
variable{X:Cx}{cl:Cf}{E:St->XK}{own:Bool}{e:Expr}{f fe:Fe}{pos pos':Pos}
theorem zqX:bootBuiltins "ValueError" = some (.type "ValueError"):=by decide +kernel
noncomputable def OpN(X:Cx)(cl:Cf)(op:Value->Value->Sem Value)(g:D->D->Option D):Prop:=OpR X op fun x y H Q=>∃w d e r,w.H=H/\TopV cl w x d/\TopV cl w y e/\g d e=some r/\∀p o w',Grow w w'->w'.H p=none->Top cl w' o r->Q (.ref p) (upd w'.H p o)
def zyv{a b:Expr}{h:Fe}{gg:D->D->Option D}{r2:R2}(hr:∀x y H Q,(∃w d e r,w.H=H/\TopV cl w x d/\TopV cl w y e/\gg d e=some r/\∀p o w',Grow w w'->w'.H p=none->Top cl w' o r->Q (.ref p) (upd w'.H p o))->r2 x y H Q)(σ:St)(H:Hp)(Q:VK)(q:tN cl E (zaf gg f h) σ H Q):tOp r2 (tH cl E f) (tH cl E h) σ H Q:=by
 obtain ⟨B,w,ρ,S,rfl,R,q⟩:=q;refine ⟨B,w,ρ,S,rfl,R,?_⟩;unfold zaf at q
 cases hf:f ρ S with
 | bad=>rwa [hf] at q
 | exc c S1=>rwa [hf] at q
 | ok d S1 =>
  rw [hf] at q;intro v w1 R1 F1 h1;refine ⟨B,w1,ρ,S1,rfl,R1,?_⟩;dsimp only [Out.bind] at q
  cases hh:h ρ S1 with
  | bad=>rwa [hh] at q
  | exc c S2=>rw [hh] at q;exact fun w2 R2 F2=>q w2 R2 (F1.trans F2)
  | ok e S2 =>
   rw [hh] at q;intro y w2 R2 F2 h2;dsimp only at q
   cases hg:gg d e with
   | none=>rw [hg] at q;exact q.elim
   | some r =>
    rw [hg] at q;exact hr _ _ _ _ ⟨w2,d,e,r,rfl,(h1.up F2).top R2,h2.top R2,hg,fun p o w' gr hp t=>q p o w' (R2.grow gr) (F1.trans (F2.trans gr.fut)) hp t⟩
noncomputable def zjN:D->D->Option D
 | .lst a,.int j=>if decide (0<=j/\j<=1000/\a.length<=1000) then some (.lst (List.replicate j.toNat a).flatten) else none
 | _,_=>none
def zpK:OpN X cl (binaryOp .Mult) zjN:=by
 intro pins s σ H x y v u Q I rx ry h;obtain ⟨w,d,e,r,rfl,hx,hy,hg,q⟩:=h;unfold zjN at hg;split at hg
 ·rename_i a j;split at hg
  ·rename_i hz;cases hg;have hz':=yaq hz;obtain ⟨p,xs,rfl,ep,rs⟩:=hx.lstI;obtain rfl:=hy.intI;have hl:=rs.length;refine zol pins s σ w.H _ _ v u Q I rx ry ⟨p,j,xs,rfl,rfl,ep,by omega,by omega,?_,fun l hl=>q l _ w (Grow.refl _) hl (.lst (rs.flat _))⟩;refine yak (ybo (show xs.length<=1000 by omega) (show j.toNat<=1000 by omega)) (by decide)
  ·cases hg
 ·cases hg
def zpl(ha:PE X a (tH cl E f))(hb:PE X b (tH cl E h)):PE X (.BinOp a .Mult b pos) (tN cl E (zaf zjN f h)) :=
 PE.imp (zsa zpK ha hb) (zyv (a:=a) (b:=b) fun _ _ _ _ z=>z)
noncomputable def zqg:Expr->Bool | .List _ _=>true | _=>false
noncomputable def zs2:Operator->Bool | .Mult=>true | _=>false
end
end S2
namespace PySem.F
end PySem.F
namespace L2
open PySem PySem.Spec PyProof.Rows
end L2
namespace PySem.F
end PySem.F
namespace L2
open PySem PySem.Spec PyProof.Rows
end L2
namespace S2
open PySem PySem.Spec PyProof.Rows L2
noncomputable def zaI(f:Str)(o:Bool)(d:D):List (Str×Bool×D)->List (Str×Bool×D)
 | []=>[(f,o,d)]
 | (g,x)::r=>if g=f then (g,o,d)::r else (g,x)::zaI f o d r
def Ob.put(ob:Ob)(f:Str)(o:Bool)(d:D):Ob:=⟨ob.cls,zaI f o d ob.fs⟩
section
variable{cl:Cf}{w:Wd}{n:Nat}
def zdv.len(h:zdv cl w n fs gs):fs.length=gs.length:=Paired.length h
def zdv.look(h:zdv cl w n fs gs)(e:gs.lookup f=some (o,d)):∃v,fs.lookup f=some v/\zit cl w (.fld n f) o v d:=by
 induction h with
 | nil=>cases e
 | @cons p q l1 l2 h t ih =>
  obtain ⟨h1,h2⟩:=h;obtain ⟨g,v⟩:=p;obtain ⟨g',o',d'⟩:=q;have h1':g=g':=h1;subst h1';rw [yaz] at e ⊢
  cases hb:f == g with
  | true =>
   rw [hb] at e;cases e;have:=eq_of_beq hb;subst this;exact ⟨v,rfl,h2⟩
  | false =>
   rw [hb] at e;exact ih e
def zdv.miss(h:zdv cl w n fs gs)(e:gs.lookup f=none):fs.lookup f=none:=by
 induction h with
 | nil=>rfl
 | @cons p q l1 l2 h t ih =>
  obtain ⟨h1,h2⟩:=h;obtain ⟨g,v⟩:=p;obtain ⟨g',o',d'⟩:=q;have h1':g=g':=h1;subst h1';rw [yaz] at e ⊢
  cases hb:f == g with
  | true=>rw [hb] at e;cases e
  | false=>rw [hb] at e;exact ih e
def zdv.put(h:zdv cl w n fs gs)(hy:zit cl w (.fld n f) o y d):zdv cl w n (zdI f y fs) (zaI f o d gs):=by
 induction h with
 | nil=>exact .cons ⟨rfl,hy⟩ .nil
 | @cons p q l1 l2 h t ih =>
  obtain ⟨h1,h2⟩:=h;obtain ⟨g,v⟩:=p;obtain ⟨g',o',d'⟩:=q;have h1':g=g':=h1;subst h1';show zdv cl w n (if g=f then (g,y)::l1 else (g,v)::zdI f y l1) (if g=f then (g,o,d)::l2 else (g,o',d')::zaI f o d l2)
  by_cases hg:g=f
  ·subst hg;rw [if_pos rfl,if_pos rfl];exact .cons ⟨rfl,hy⟩ t
  ·rw [if_neg hg,if_neg hg];exact .cons ⟨rfl,h2⟩ ih
def zdv.keepBut(f:Fut w w')(k:∀a o g,g≠x->w.H a=some o->w.ow a=some (.fld n g)->w'.H a=some o/\w'.ow a=some (.fld n g))(h:zdv cl w n fs gs)(hn:∀q∈gs,q.1=x->q.2.1=false):zdv cl w' n fs gs:=by
 induction h with
 | nil=>exact .nil
 | @cons p q l1 l2 h t ih =>
  obtain ⟨h1,h2⟩:=h;refine .cons ⟨h1,?_⟩ (ih fun q hq=>hn q (yaw _ hq))
  by_cases hx:q.1=x
  ·have ho:=hn q yaA hx;rw [ho] at h2 ⊢
   rcases h2 with ⟨_,h2⟩ | ⟨e,_⟩
   ·exact .inl ⟨rfl,Shd.up f h2⟩
   ·cases e
  ·exact h2.keep f fun a o ha hr=>k a o q.1 hx ha hr
def zdv.keepF(f:Fut w w')(k:∀a o g,w.H a=some o->w.ow a=some (.fld n g)->w'.H a=some o/\w'.ow a=some (.fld n g))(h:zdv cl w n fs gs):zdv cl w' n fs gs:=by
 induction h with
 | nil=>exact .nil
 | @cons p q l1 l2 h t ih=>exact .cons ⟨h.1,h.2.keep f fun a o ha hr=>k a o q.1 ha hr⟩ ih
variable{B:Base}{σ:St}{ρ:Env}{S:Sto}
def World'.atObj(W:World' cl B w S)(h:S[n]?=some ob)(e:w.mu[n]?=some a):ztC cl w n a ob:=by
 obtain ⟨a',e',x⟩:=W.obj n ob h;rw [e] at e';cases e';exact x
def zih(h:(S.set n ob)[m]?=some ob'):(m=n/\ob'=ob)\/(m≠n/\S[m]?=some ob'):=by
 by_cases e:n=m
 ·subst e
  have hlt:n<S.length:=by
   have:=(yai.mp h).1;rwa [yaL] at this
  rw [yaH hlt] at h;cases h;exact .inl ⟨rfl,rfl⟩
 ·rw [yaT e] at h;exact .inr ⟨fun z=>e z.symm,h⟩
def Rel.setf(R:Rel cl B σ w ρ S)(hn:S[n]?=some ob)(hmu:w.mu[n]?=some a)(how:w.ow a=some (.obj n))(hH:w.H a=some (.ins (cl ob.cls) dx fs))(hF:zdv cl w n fs ob.fs)(hy:Shd cl w y d) :
  Rel cl B σ (w.mut a (.ins (cl ob.cls) dx (zdI f y fs))) ρ (S.set n (ob.put f false d))/\Fut w (w.mut a (.ins (cl ob.cls) dx (zdI f y fs))):=by
 have ff:=zc6 (w:=w) (p:=a) (o:=.ins (cl ob.cls) dx (zdI f y fs)) (by rw [how];exact yaE _)
 have kp:∀b u,w.H b=some u->w.ow b≠some (.obj n)->(w.mut a (.ins (cl ob.cls) dx (zdI f y fs))).H b=some u/\(w.mut a (.ins (cl ob.cls) dx (zdI f y fs))).ow b=w.ow b:=fun b u hb hne=>⟨by
  show upd w.H a _ b=_
  rw [zao (fun z=>hne (by rw [z];exact how))];exact hb,rfl⟩
 have hB:B.Fr a=none:=(R.wd.own a _ how).elim (fun z=>by cases z) fun z=>z
 refine ⟨⟨⟨fun b u h=>?_,R.wd.own,by rw [yaL];exact R.wd.len,fun m ob' h=>?_⟩,R.len,fun i o e h=>?_⟩,ff⟩
 ·refine ⟨?_,(R.wd.fr b u h).2⟩;show upd w.H a _ b=_;rw [zao (fun z=>by rw [z,hB] at h;cases h)];exact (R.wd.fr b u h).1
 ·rcases zih h with ⟨rfl,rfl⟩ | ⟨hne,h⟩
  ·refine ⟨a,hmu,how,dx,_,zay,?_⟩;exact zdv.put (hF.keepF ff fun b u g hb hg=>⟨(kp b u hb (by rw [hg];exact fun z=>by cases z)).1,hg⟩) (.inl ⟨rfl,hy.up ff⟩)
  ·obtain ⟨b,e,x⟩:=R.wd.obj m ob' h;exact ⟨b,e,x.keep ff fun b u hb hm=>kp b u hb fun z=>by rw [z] at hm;exact hne hm.symm⟩
 ·obtain ⟨v,e1,x⟩:=R.slots i o e h;exact ⟨v,e1,x.keep ff fun b u hb hr=>⟨(kp b u hb (by rw [hr];exact fun z=>by cases z)).1,hr⟩⟩
def Wd.addF(w:Wd)(p:Addr)(o:HO)(n:Nat)(f:Str):Wd:=⟨upd w.H p o,fun b=>if b=p then some (.fld n f) else w.ow b,w.mu⟩
def Rel.newf(R:Rel cl B σ w ρ S)(hn:S[n]?=some ob)(hmu:w.mu[n]?=some a)(how:w.ow a=some (.obj n))(hH:w.H a=some (.ins (cl ob.cls) dx fs))(hF:zdv cl w n fs ob.fs)(hp:w.H p=none) :
  Rel cl B σ ((w.addF p (.ext (DN cl.P cl.wo p [])) n f).mut a (.ins (cl ob.cls) dx (zdI f (.ref p) fs))) ρ (S.set n (ob.put f true (.dic [])))/\Fut w ((w.addF p (.ext (DN cl.P cl.wo p [])) n f).mut a (.ins (cl ob.cls) dx (zdI f (.ref p) fs))):=by
 have hap:a≠p:=zav hH hp
 have kp:∀b u,w.H b=some u->w.ow b≠some (.obj n)->((w.addF p (.ext (DN cl.P cl.wo p [])) n f).mut a (.ins (cl ob.cls) dx (zdI f (.ref p) fs))).H b=some u/\((w.addF p (.ext (DN cl.P cl.wo p [])) n f).mut a (.ins (cl ob.cls) dx (zdI f (.ref p) fs))).ow b=w.ow b:=fun b u hb hne=>by
  have hbp:b≠p:=zav hb hp;refine ⟨?_,?_⟩
  ·show upd (upd w.H p _) a _ b=_;rw [zao (fun z=>hne (by rw [z];exact how)),zao hbp];exact hb
  ·show (if b=p then _ else w.ow b)=_;rw [if_neg hbp]
 have ff:Fut w ((w.addF p (.ext (DN cl.P cl.wo p [])) n f).mut a (.ins (cl ob.cls) dx (zdI f (.ref p) fs))):=⟨fun b u hb hk=>by
  have:=kp b u hb (by rw [hk];exact fun z=>by cases z)
  exact ⟨this.1,this.2.trans hk⟩,fun _ _ h=>h⟩
 have hB:B.Fr a=none:=(R.wd.own a _ how).elim (fun z=>by cases z) fun z=>z
 have hBp:B.Fr p=none:=by
  cases z:B.Fr p with
  | none=>rfl
  | some u=>have:=(R.wd.fr p u z).1;rw [hp] at this;cases this
 have Hp:((w.addF p (.ext (DN cl.P cl.wo p [])) n f).mut a (.ins (cl ob.cls) dx (zdI f (.ref p) fs))).H p=some (.ext (DN cl.P cl.wo p [])):=by
  show upd (upd w.H p _) a _ p=_;rw [zao hap.symm,zay]
 have owp:((w.addF p (.ext (DN cl.P cl.wo p [])) n f).mut a (.ins (cl ob.cls) dx (zdI f (.ref p) fs))).ow p=some (.fld n f):=if_pos rfl
 have owa:((w.addF p (.ext (DN cl.P cl.wo p [])) n f).mut a (.ins (cl ob.cls) dx (zdI f (.ref p) fs))).ow a=some (.obj n):=by
  show (if a=p then _ else w.ow a)=_;rw [if_neg hap];exact how
 refine ⟨⟨⟨fun b u h=>?_,fun b r h=>?_,by rw [yaL];exact R.wd.len,fun m ob' h=>?_⟩,R.len,fun i o e h=>?_⟩,ff⟩
 ·have:=kp b u (R.wd.fr b u h).1 fun z=>by
   rcases R.wd.own b _ z with y | y
   ·cases y
   ·rw [h] at y;cases y
  exact ⟨this.1,this.2.trans (R.wd.fr b u h).2⟩
 ·have h':(if b=p then some (Root.fld n f) else w.ow b)=some r:=h;split at h'
  ·rename_i z;rw [z];exact .inr hBp
  ·exact R.wd.own b r h'
 ·rcases zih h with ⟨rfl,rfl⟩ | ⟨hne,h⟩
  ·refine ⟨a,hmu,owa,dx,_,zay,?_⟩;refine zdv.put (hF.keepF ff fun b u g hb hg=>?_) (.inr ⟨rfl,p,[],[],[],rfl,owp,Hp,.nil,.nil,rfl⟩);have:=kp b u hb (by rw [hg];exact fun z=>by cases z);exact ⟨this.1,this.2.trans hg⟩
  ·obtain ⟨b,e,x⟩:=R.wd.obj m ob' h;exact ⟨b,e,x.keep ff fun b u hb hm=>kp b u hb fun z=>by rw [z] at hm;exact hne hm.symm⟩
 ·obtain ⟨v,e1,x⟩:=R.slots i o e h
  exact ⟨v,e1,x.keep ff fun b u hb hr=>by
   have:=kp b u hb (by rw [hr];exact fun z=>by cases z)
   exact ⟨this.1,this.2.trans hr⟩⟩
noncomputable def zfI(ob:Ob):Bool:=decide (ob.fs.map (·.1)).Nodup
def zdv.dic(ff:Fut w w')(k:∀b o g,g≠f->w.H b=some o->w.ow b=some (.fld n g)->w'.H b=some o/\w'.ow b=some (.fld n g))(hy:zit cl w' (.fld n f) true (.ref a) d):∀{fs:List (Str×V)} {gs:List (Str×Bool×D)},zdv cl w n fs gs->(gs.map (·.1)).Nodup->fs.lookup f=some (.ref a)->zdv cl w' n fs (zaI f true d gs):=by
 intro fs gs h
 induction h with
 | nil=>intro _ e;cases e
 | @cons p q l1 l2 h t ih =>
  intro nd e;obtain ⟨h1,h2⟩:=h;obtain ⟨g,v⟩:=p;obtain ⟨g',o',d'⟩:=q;have h1':g=g':=h1;subst h1';rw [yav,ybO] at nd;show zdv cl w' n ((g,v)::l1) (if g=f then (g,true,d)::l2 else (g,o',d')::zaI f true d l2);rw [yaz] at e
  by_cases hg:g=f
  ·subst hg;rw [if_pos rfl];simp only [yb8] at e;cases e;refine .cons ⟨rfl,hy⟩ ?_;have t':zdv cl w n l1 l2:=t;exact t'.keepBut ff k fun q hq hx=>absurd (yat.mpr ⟨q,hq,hx⟩) nd.1
  ·rw [if_neg hg];have hb:(f == g)=false:=yaR.mpr fun z=>hg z.symm
   rw [hb] at e;exact .cons ⟨rfl,h2.keep ff fun b o hb hr=>k b o g hg hb hr⟩ (ih nd.2 e)
def Rel.setd(R:Rel cl B σ w ρ S)(hn:S[n]?=some ob)(hmu:w.mu[n]?=some a)(how:w.ow a=some (.obj n))(hH:w.H a=some (.ins (cl ob.cls) dx fs))(hF:zdv cl w n fs ob.fs)
  (hl:fs.lookup f=some (.ref c)) (hc:w.ow c=some (.fld n f)) (hcH:w.H c=some (.ext (DN cl.P cl.wo c xs))) (he:zjt w xs m) (hs:ShdN cl w m ds) (hk:zmm w kb k) (rv:zbr v u) (hv:Shd cl w v d) (nd:zfI ob=true) :
  Rel cl B σ (w.mut c (.ext (DN cl.P cl.wo c (xs++[(k,kb,u)])))) ρ (S.set n (ob.put f true (.dic (ds++[(nkD k,d)]))))/\Fut w (w.mut c (.ext (DN cl.P cl.wo c (xs++[(k,kb,u)])))):=by
 have ff:=zc6 (w:=w) (p:=c) (o:=.ext (DN cl.P cl.wo c (xs++[(k,kb,u)]))) (by rw [hc];exact yaE _)
 have kp:∀b o,w.H b=some o->w.ow b≠some (.fld n f)->(w.mut c (.ext (DN cl.P cl.wo c (xs++[(k,kb,u)])))).H b=some o/\(w.mut c (.ext (DN cl.P cl.wo c (xs++[(k,kb,u)])))).ow b=w.ow b:=fun b o hb hne=>⟨by
  show upd w.H c _ b=_
  rw [zao (fun z=>hne (by rw [z];exact hc))];exact hb,rfl⟩
 have hB:B.Fr c=none:=(R.wd.own c _ hc).elim (fun z=>by cases z) fun z=>z
 refine ⟨⟨⟨fun b o h=>?_,R.wd.own,by rw [yaL];exact R.wd.len,fun m' ob' h=>?_⟩,R.len,fun i o e h=>?_⟩,ff⟩
 ·refine ⟨?_,(R.wd.fr b o h).2⟩;show upd w.H c _ b=_;rw [zao (fun z=>by rw [z,hB] at h;cases h)];exact (R.wd.fr b o h).1
 ·rcases zih h with ⟨rfl,rfl⟩ | ⟨hne,h⟩
  ·refine ⟨a,hmu,how,dx,fs,?_,?_⟩
   ·exact (kp a _ hH (by rw [how];exact fun z=>by cases z)).1
   ·refine zdv.dic (a:=c) ff (fun b o g hg hb hr=>?_) (.inr ⟨rfl,c,_,m++[(k,v)],ds++[(nkD k,d)],rfl,hc,zay,?_,?_,rfl⟩) hF (yaq nd) hl
    ·exact ⟨(kp b o hb (by rw [hr];exact fun z=>hg (by cases z;rfl))).1,hr⟩
    ·exact (he.up ff).snoc ⟨rfl,hk.up ff,rv⟩
    ·exact (hs.up ff).snoc (hv.up ff)
  ·obtain ⟨b,e,x⟩:=R.wd.obj m' ob' h;exact ⟨b,e,x.keep ff fun b o hb hm=>kp b o hb fun z=>by rw [z] at hm;exact hne hm.symm⟩
 ·obtain ⟨v',e1,x⟩:=R.slots i o e h;exact ⟨v',e1,x.keep ff fun b o hb hr=>⟨(kp b o hb (by rw [hr];exact fun z=>by cases z)).1,hr⟩⟩
def Wd.addO(w:Wd)(x dx C:Addr)(n:Nat):Wd:=⟨upd (upd w.H dx (.own x)) x (.ins C dx []),fun b=>if b=x then some (.obj n) else if b=dx then none else w.ow b,w.mu++[x]⟩
theorem Rel.made(R:Rel cl B σ w ρ S)(hx:w.H x=none)(hdx:w.H dx=none)(ne:dx≠x):Rel cl B σ (w.addO x dx (cl c) S.length) ρ (S++[⟨c,[]⟩])/\Fut w (w.addO x dx (cl c) S.length):=by
 have kp:∀b o,w.H b=some o->(w.addO x dx (cl c) S.length).H b=some o/\(w.addO x dx (cl c) S.length).ow b=w.ow b:=fun b o hb=>by
  have n1:b≠x:=zav hb hx;have n2:b≠dx:=zav hb hdx;refine ⟨?_,?_⟩
  ·show upd (upd w.H dx _) x _ b=_;rw [zao n1,zao n2];exact hb
  ·show (if b=x then _ else if b=dx then _ else w.ow b)=_;rw [if_neg n1,if_neg n2]
 have ff:Fut w (w.addO x dx (cl c) S.length):=⟨fun b o hb hk=>⟨(kp b o hb).1,(kp b o hb).2.trans hk⟩,fun n a h=>by
  show (w.mu++[x])[n]?=some a
  rw [yay (yai.mp h).1];exact h⟩
 have hBx:B.Fr x=none:=by
  cases z:B.Fr x with
  | none=>rfl
  | some u=>have:=(R.wd.fr x u z).1;rw [hx] at this;cases this
 refine ⟨⟨⟨fun b o h=>?_,fun b r h=>?_,by show (w.mu++[x]).length=_;rw [yam,yam,R.wd.len];rfl,fun m ob h=>?_⟩,R.len,fun i o e h=>?_⟩,ff⟩
 ·have:=kp b o (R.wd.fr b o h).1;exact ⟨this.1,this.2.trans (R.wd.fr b o h).2⟩
 ·have h':(if b=x then some (Root.obj S.length) else if b=dx then none else w.ow b)=some r:=h;split at h'
  ·rename_i z;rw [z];exact .inr hBx
  ·split at h'
   ·cases h'
   ·exact R.wd.own b r h'
 ·by_cases hm:m<S.length
  ·rw [yay hm] at h;obtain ⟨b,e,y⟩:=R.wd.obj m ob h;exact ⟨b,ff.mu _ _ e,y.keep ff fun b o hb _=>kp b o hb⟩
  ·have hm':m=S.length:=by
    have:=(yai.mp h).1;rw [yam,ybh] at this;omega
   subst hm';rw [yas (yaj _),ybw] at h;cases h;refine ⟨x,?_,if_pos rfl,dx,[],zay,.nil⟩;show (w.mu++[x])[S.length]?=some x;rw [yas (by rw [R.wd.len];exact yaj _),R.wd.len,ybw];rfl
 ·obtain ⟨v,e1,y⟩:=R.slots i o e h;exact ⟨v,e1,y.keep ff fun b o hb hr=>⟨(kp b o hb).1,(kp b o hb).2.trans hr⟩⟩
end
noncomputable def zm1:D->Option (Option Int) | .non=>some none | .int i=>some (some i) | _=>none
def zdX:List D->Option (List (Option Int))
 | []=>some []
 | d::r=>(zm1 d).bind fun o=>(zdX r).map (o::·)
def zi1:D->Option NK
 | .tup [.int i,.tup l]=>(zdX l).map fun os=>(i,os)
 | _=>none
def zbl(k:NK):List (D×D)->Option D
 | []=>none
 | (q,d)::r=>if zi1 q=some k then some d else zbl k r
def zk5(o:Option Int):zm1 (oDn o)=some o:=by cases o<;>rfl
theorem zfH:∀l:List (Option Int),zdX (l.map oDn)=some l
 | []=>rfl
 | o::l=>by rw [yav];unfold zdX;rw [zk5,zfH l];rfl
def zdY(k:NK):zi1 (nkD k)=some k:=by
 show (zdX (k.2.map oDn)).map (fun os=>(k.1,os))=some k;rw [zfH];rfl
section
variable{cl:Cf}{w:Wd}
theorem zk4:∀{xs:List V} {ds:List D} {os:Z4},Shds cl w xs ds->zdX ds=some os->xs=os.map oV
 | _,_,os,.nil,h=>by cases h;rfl
 | _,_,os,.cons (v:=v) (d:=d) (ds:=ds) r t,h=>by
  unfold zdX at h
  cases h1:zm1 d with
  | none=>rw [h1] at h;cases h
  | some o =>
   rw [h1] at h
   cases h2:zdX ds with
   | none=>rw [h2] at h;cases h
   | some os' =>
    rw [h2] at h;cases h;rw [yav,<-zk4 t h2]
    cases d<;>simp [zm1] at h1<;>subst h1<;>cases r<;>rfl
def zos(h:Shd cl w v d)(hk:zi1 d=some k):∃kb,v=.ref kb/\zmm w kb k:=by
 unfold zi1 at hk;split at hk
 ·rename_i i l
  cases ho:zdX l with
  | none=>rw [ho] at hk;cases hk
  | some os =>
   rw [ho] at hk;cases hk
   cases h with
   | tup e o r =>
    cases r with
    | cons r1 t =>
     cases t with
     | cons r2 t =>
      cases t;cases r1
      cases r2 with
      | tup e2 o2 r2=>exact ⟨_,rfl,_,⟨e,o⟩,by rw [<-zk4 r2 ho];exact e2,o2⟩
 ·cases hk
theorem znG:∀{m:List (NK×V)} {ds:List (D×D)},ShdN cl w m ds->∀k:NK,(m.lookup k=none/\zbl k ds=none)\/∃v d,m.lookup k=some v/\zbl k ds=some d/\Shd cl w v d
 | _,_,.nil,k=>.inl ⟨rfl,rfl⟩
 | _,_,.cons (k:=k') (v:=v) (d:=d) r t,k=>by
  rw [yaz];unfold zbl;rw [zdY]
  by_cases e:k'=k
  ·subst e;rw [if_pos rfl,yb8];exact .inr ⟨v,d,rfl,rfl,r⟩
  ·rw [if_neg (fun z=>e (by cases z;rfl)),yaR.mpr (fun z=>e z.symm)];exact znG t k
theorem zoE:∀{m:List (NK×V)} {ds:List (D×D)},ShdN cl w m ds->m.length=ds.length
 | _,_,.nil=>rfl
 | _,_,.cons r t=>by rw [yan,yan,zoE t]
end
noncomputable def zjd(cn f:Str)(d:D)(S:Sto):Option D:=match d with
 | .ref n=>(match S[n]? with
  | some ob=>if ob.cls=cn then (match ob.fs.lookup f with | some (false,d)=>some d | _=>none) else none
  | none=>none)
 | _=>none
def zfP(cn f:Str)(fe:Fe):Fe:=fun ρ S=>(fe ρ S).bind fun d S1=>match zjd cn f d S1 with | some r=>.ok r S1 | none=>.bad
noncomputable def zmj(cl:Cf)(cn f:Str):Prop:=Cls cl.K (cl cn)/\zdF cl.K (cl cn) f
noncomputable def zgF(cn f:Str)(d:D)(S:Sto):Option (Nat×Ob×List (D×D)):=match d with
 | .ref n=>(match S[n]? with
  | some ob=>if ob.cls=cn then (match ob.fs.lookup f with | some (true,.dic ds)=>some (n,ob,ds) | _=>none) else none
  | none=>none)
 | _=>none
section
variable{cl:Cf}{cn:Str}{X:Cx}{E:St->XK}{e:Expr}{fe:Fe}{f:Str}{pos:Pos}{B:Base}{σ:St}{w:Wd}{ρ:Env}{S:Sto}
def zhL(R:Rel cl B σ w ρ S)(hv:Shd cl w v (.ref n))(hn:S[n]?=some ob):∃a dx fs,v=.ref a/\w.mu[n]?=some a/\w.ow a=some (.obj n)/\w.H a=some (.ins (cl ob.cls) dx fs)/\zdv cl w n fs ob.fs:=by
 cases hv with
 | ref e =>
  obtain ⟨h1,dx,fs,h2,h3⟩:=R.wd.atObj hn e;exact ⟨_,dx,fs,rfl,e,h1,h2,h3⟩
def ztt(hk:zmj cl cn f)(R:Rel cl B σ w ρ S)(hv:Shd cl w v d)(hd:zjd cn f d S=some r):∃a C dx fs y,v=.ref a/\w.H a=some (.ins C dx fs)/\Cls cl.K C/\zdF cl.K C f/\fs.lookup f=some y/\Shd cl w y r:=by
 unfold zjd at hd
 cases d with
 | ref n =>
  dsimp only at hd
  cases hS:S[n]? with
  | none=>rw [hS] at hd;cases hd
  | some ob =>
   rw [hS] at hd;dsimp only at hd;split at hd
   ·rename_i hfk;split at hd
    ·rename_i d hl;cases hd;obtain ⟨a,dx,fs,rfl,_,_,hH,hF⟩:=zhL R hv hS;obtain ⟨v,lv,fr⟩:=hF.look hl
     rcases fr with ⟨_,fr⟩ | ⟨z,_⟩
     ·exact ⟨a,_,dx,fs,v,rfl,hH,hfk ▸ hk.1,hfk ▸ hk.2,lv,fr⟩
     ·cases z
    ·cases hd
   ·cases hd
 | _=>cases hd
def zrK(hk:zmj cl cn f)(kk:X.K=cl.K)(he:PE X e (tE cl E fe))(hb:attributeBase e f X.env (eval e X.env)=eval e X.env):PE X (.Attribute e f pos) (tE cl E (zfP cn f fe)):=by
 refine PE.imp (zhb he hb) ?_;rintro σ H Q ⟨B,w,ρ,S,rfl,R,q⟩;refine ⟨B,w,ρ,S,rfl,R,?_⟩;unfold zfP at q
 cases hf:fe ρ S with
 | bad=>rwa [hf] at q
 | exc c S1=>rwa [hf] at q
 | ok d S1 =>
  rw [hf] at q;intro v w1 R1 F1 h1;dsimp only [Out.bind] at q
  cases hd:zjd cn f d S1 with
  | none=>rw [hd] at q;exact q.elim
  | some r =>
   rw [hd] at q;obtain ⟨a,C,dx,fs,y,rfl,e1,e2,e3,e4,e5⟩:=ztt hk R1 h1 hd;rw [kk];exact ⟨a,C,dx,fs,y,rfl,e1,e2,e3,e4,q y w1 R1 F1 e5⟩
def zma(hk:zmj cl cn f)(R:Rel cl B σ w ρ S)(hv:Shd cl w v d)(hd:zgF cn f d S=some (n,ob,ds)) :
  ∃a dx fs c xs m,v=.ref a/\S[n]?=some ob/\w.mu[n]?=some a/\w.ow a=some (.obj n)/\w.H a=some (.ins (cl ob.cls) dx fs)/\zdv cl w n fs ob.fs/\Cls cl.K (cl ob.cls)/\zdF cl.K (cl ob.cls) f/\fs.lookup f=some (.ref c)/\w.ow c=some (.fld n f)/\w.H c=some (.ext (DN cl.P cl.wo c xs))/\zjt w xs m/\ShdN cl w m ds:=by
 unfold zgF at hd
 cases d with
 | ref n' =>
  dsimp only at hd
  cases hS:S[n']? with
  | none=>rw [hS] at hd;cases hd
  | some ob' =>
   rw [hS] at hd;dsimp only at hd;split at hd
   ·rename_i hfk;split at hd
    ·rename_i ds' hl;cases hd;obtain ⟨a,dx,fs,rfl,hmu,how,hH,hF⟩:=zhL R hv hS;obtain ⟨v,lv,fr⟩:=hF.look hl
     rcases fr with ⟨z,_⟩ | ⟨_,c,xs,m,ds2,rfl,c1,c2,c3,c4,e⟩
     ·cases z
     ·cases e;exact ⟨a,dx,fs,c,xs,m,rfl,hS,hmu,how,hH,hF,hfk ▸ hk.1,hfk ▸ hk.2,lv,c1,c2,c3,c4⟩
    ·cases hd
   ·cases hd
 | _=>cases hd
end
end S2
namespace L2
open PySem PySem.Spec PyProof.Rows
section
variable{X:Cx}
noncomputable def zyB(ta:TA):TE:=fun σ H Q=>ta σ H fun vs H1=>∃j:Int,vs=[.int j]/\0<=j/\j<=1000/\∀p,H1 p=none->Q (.ref p) (upd H1 p (.rng 0 j))
def zr9{a:Expr}{ta:TA}{p pos:Pos}(hg:Gl X "range")(hm:X.mg "range" = none)(ha:PA X [a] ta)(hs:starEach [a] X.env=[(false,eval a X.env)]:=by rfl):PE X (.Call (.Name "range" p) [a] [] pos) (zyB ta):=by
 intro pins s σ H Q I h;refine Call_ (zeu I hg hm boot_range (ya7 (thn (ha pos pins s σ H _ I h) fun us s1 ⟨vs,H1,I1,r1,q1⟩=>?_) hs rfl));obtain ⟨j,e,j0,j1,q⟩:=q1;subst e
 cases r1 with
 | cons r rr =>
  cases rr;obtain ⟨t,rfl⟩:=r;refine call_range_1 ⟨.ref s1.heap.objs.size,_,I1.laid (a:=s1.heap.objs.size) (o:=.rng 0 j) (fun _ _ q=>yag _ q) (yaj _) ⟨_,_,_,yao _ rfl⟩,rfl,q _ (I1.hok.fresh (yaj _))⟩
theorem zju:∀(n:Nat) (its:List Value),its.length=n->(∀(i:Nat) (v:Value),its[i]?=some v->∃t,v=.int (i:Int) t)->Vals ((List.range n).map fun (i:Nat)=>V.int (i:Int)) its:=by
 intro n
 induction n with
 | zero =>
  intro its hl _;have:its=[]:=ybq hl;subst this;exact .nil
 | succ n ih =>
  intro its hl h
  have e:its=its.take n++[its[n]]:=by
   have:=ycx n its
   have h2:its.drop n=[its[n]]:=by
    rw [yb6 (by omega),List.drop_of_length_le (by omega)]
   rw [h2] at this;exact this.symm
  rw [e,ybB,ybC];refine (ih (its.take n) (by rw [yaC];omega) fun i v hv=>?_).append (.cons ?_ .nil)
  ·have hi:i<n:=by
    have:=(yai.mp hv).1;rw [yaC] at this;omega
   rw [ycf,if_pos hi] at hv;exact h i v hv
  ·exact h n its[n] (yab (by omega))
theorem zgx(hc:X.calm=true):zdw X (.type "list") (fun xs H Q=>∃(p:Addr) (n:Nat),xs=[.ref p]/\H p=some (.rng 0 (n:Int))/\n<=1000/\∀l,H l=none->Q (.ref l) (upd H l (.lst ((List.range n).map fun (i:Nat)=>V.int (i:Int))))):=by
 intro pins s σ H xs us Q I r h;obtain ⟨p,n,rfl,hp,hn,q⟩:=h;obtain ⟨u,rfl,rx⟩:=zeP r;cases rx;obtain ⟨t,u,v,hr⟩:=I.hok p _ hp;refine call_list_range (n:=n) (I.ok.hd hc) (show IsRange s.heap p 0 (n:Int) 1 t u v from hr) (small_one (by omega) (by omega) (by omega) (by omega)) (by rw [rangeSize_one];split<;>omega) (by omega) fun h' tk acc c' kp e hi=>?_
 refine ⟨.ref s.heap.objs.size,_,I.laid (t':=tk) kp (yaj _) (show zbL X.prog X.w _ h' _ (.lst _) from ⟨?_,acc.toList,c',zju n acc.toList ?_ ?_,by simpa using e⟩),rfl,q _ (I.hok.fresh (yaj _))⟩
 ·rw [yad,ycs];exact yak hn (by decide)
 ·have:=hi.1;simpa using this
 ·intro i v hv;have:=hi.2 i v (by simpa using hv);simpa using this
end
end L2
namespace S2
open PySem PySem.Spec PyProof.Rows L2
def zoD(cn f:Str)(fa fo:Fe):Fe:=fun ρ S=>(fa ρ S).bind fun dk S1=>(fo ρ S1).bind fun d S2=>match zi1 dk,zgF cn f d S2 with
 | some k,some (_,_,ds)=>.ok (.bl (zbl k ds).isNone) S2
 | _,_=>.bad
noncomputable def zke(ρ:Env)(i:Nat):Option NK:=match ρ[i]? with | some (some (false,dk))=>zi1 dk | _=>none
def zjZ(cn f:Str)(fo:Fe)(i:Nat):Fe:=fun ρ S=>(fo ρ S).bind fun d S1=>match zke ρ i,zgF cn f d S1 with
 | some k,some (_,_,ds)=>(match zbl k ds with | some r=>.ok r S1 | none=>.bad)
 | _,_=>.bad
def zjE(cn f:Str)(fo:Fe)(i:Nat)(fe:Fe):Fs:=fun ρ S=>match fe ρ S with
 | .bad=>.bad
 | .exc c S1=>.ex c ρ S1
 | .ok r S1=>(match fo ρ S1 with
  | .bad=>.bad
  | .exc c S2=>.ex c ρ S2
  | .ok d S2=>(match zke ρ i,zgF cn f d S2 with
   | some k,some (n,ob,ds)=>if (zbl k ds).isNone&&decide (ds.length<=1000000)&&zfI ob then .nx ρ (S2.set n (ob.put f true (.dic (ds++[(nkD k,r)])))) else .bad
   | _,_=>.bad))
def zf3(cn f:Str)(fo fe:Fe):Fs:=fun ρ S=>match fe ρ S with
 | .bad=>.bad
 | .exc c S1=>.ex c ρ S1
 | .ok r S1=>(match fo ρ S1 with
  | .bad=>.bad
  | .exc c S2=>.ex c ρ S2
  | .ok (.ref n) S2=>(match S2[n]? with
   | some ob=>if decide (ob.cls=cn)&&decide (ob.fs.length<1000) then .nx ρ (S2.set n (ob.put f false r)) else .bad
   | none=>.bad)
  | .ok _ _=>.bad)
def zjG(cn f:Str)(i:Nat):Fs:=fun ρ S=>match ρ[i]? with
 | some (some (false,.ref n))=>(match S[n]? with
   | some ob=>if decide (ob.cls=cn)&&decide (ob.fs.length<1000) then .nx ρ (S.set n (ob.put f true (.dic []))) else .bad
   | none=>.bad)
 | _=>.bad
noncomputable def zc2(c m:Str)(d:D)(S:Sto):Bool:=match d with
 | .ref n=>(match S[n]? with | some ob=>decide (ob.cls=c)&&(ob.fs.lookup m).isNone | none=>false)
 | _=>false
def zb9(c m:Str)(G:List D->Sto->Out D)(fo:Fe)(fs:List Fe):Fe:=fun ρ S=>(fo ρ S).bind fun d S1=>if zc2 c m d S1 then (zal fs ρ S1).bind fun ds S2=>G (d::ds) S2 else .bad
def eMk(c:Str)(dds:List D)(G:List D->Sto->Out D)(fs:List Fe):Fe:=fun ρ S=>(zal fs ρ S).bind fun ds S1=>(G (.ref S1.length::(ds++dds)) (S1++[⟨c,[]⟩])).bind fun r S2=>match r with | .non=>.ok (.ref S1.length) S2 | _=>.bad
structure Same'(cl:Cf)(X:Cx):Prop where
 kk:X.K=cl.K
 pp:X.prog=cl.P
 ww:X.w=cl.wo
section
variable{cl:Cf}{cn:Str}{X:Cx}{E:St->XK}{a o e:Expr}{fa fo fe:Fe}{f:Str}{pos apos:Pos}{own:Bool}
def zsE(sm:Same' cl X)(hk:zmj cl cn f)(σ:St)(H:Hp)(Q:VK)(q:tE cl E (zoD cn f fa fo) σ H Q) :
  tOp (fun x y H Q=>∃kb a k xs m,x=.ref kb/\y=.ref a/\zis H kb k/\H a=some (.ext (DN X.prog X.w a xs))/\znZ H xs m/\Q (.bl (m.lookup k).isNone) H) (tE cl E fa) (zwI X.K (tE cl E fo) f) σ H Q:=by
 obtain ⟨B,w,ρ,S,rfl,R,q⟩:=q;refine ⟨B,w,ρ,S,rfl,R,?_⟩;unfold zoD at q
 cases hf:fa ρ S with
 | bad=>rwa [hf] at q
 | exc c S1=>rwa [hf] at q
 | ok dk S1 =>
  rw [hf] at q;intro v w1 R1 F1 h1;refine ⟨B,w1,ρ,S1,rfl,R1,?_⟩;dsimp only [Out.bind] at q
  cases hh:fo ρ S1 with
  | bad=>rwa [hh] at q
  | exc c S2=>rw [hh] at q;exact fun w2 R2 F2=>q w2 R2 (F1.trans F2)
  | ok d S2 =>
   rw [hh] at q;intro y w2 R2 F2 h2;dsimp only at q
   cases hn:zi1 dk with
   | none=>rw [hn] at q;exact q.elim
   | some k =>
    cases hd:zgF cn f d S2 with
    | none=>rw [hn,hd] at q;exact q.elim
    | some t =>
     obtain ⟨n,ob,ds⟩:=t;rw [hn,hd] at q;dsimp only at q;obtain ⟨a,dx,fs,c,xs,m,rfl,_,_,_,hH,_,c1,c2,lv,_,hc,he,hs⟩:=zma hk R2 h2 hd;obtain ⟨kb,rfl,ks⟩:=zos (h1.up F2) hn;rw [sm.kk];refine ⟨a,_,dx,fs,_,rfl,hH,c1,c2,lv,kb,c,k,xs,m,rfl,rfl,ks.at,by rw [sm.pp,sm.ww];exact hc,he.ents,?_⟩
     have:(m.lookup k).isNone=(zbl k ds).isNone:=by
      rcases znG hs k with ⟨e1,e2⟩ | ⟨_,_,e1,e2,_⟩<;>rw [e1,e2]<;>rfl
     rw [this];exact q _ w2 R2 (F1.trans F2) (.bl _)
def zrI(hu:X.A.units+16<cLine)(sm:Same' cl X)(hk:zmj cl cn f)(ha:PE X a (tE cl E fa))(ho:PE X o (tE cl E fo))(hb:attributeBase o f X.env (eval o X.env)=eval o X.env)(hm:behindInMarks .NotIn (.Attribute o f apos)=false):PE X (.Compare a [.NotIn] [.Attribute o f apos] pos) (tE cl E (zoD cn f fa fo)) :=
 PE.imp (zk0 (zom hu) ha (zhb ho hb) hm) (zsE sm hk)
def zrn(hu:X.A.units+16<cLine)(sm:Same' cl X)(hk:zmj cl cn f)(ha:PE X a (tE cl E fa))(ho:PE X o (tE cl E fo))(hb:attributeBase o f X.env (eval o X.env)=eval o X.env)(hm:behindInMarks .NotIn (.Attribute o f apos)=false):PT X (.Compare a [.NotIn] [.Attribute o f apos] pos) (tTr cl E (zoD cn f fa fo)) :=
 PT.imp (zkQ (zom hu) ha (zhb ho hb) hm) fun _ _ _ q=>zsE sm hk _ _ _ (ziA q)
def zlt(R:Rel cl B σ w ρ S)(h:zke ρ i=some k):∃kb,σ[i]?=some (some (.ref kb))/\zmm w kb k:=by
 unfold zke at h;split at h
 ·rename_i dk hi;obtain ⟨v,e,r⟩:=R.slots i false dk hi;obtain ⟨kb,rfl,ks⟩:=zos r h;exact ⟨kb,e,ks⟩
 ·cases h
def zpo(hN:X.N[i]?=some x)(hv:Vis X.env.scope x)(hd:(x == ("__debug__":Str))=false)(hcd:(x == ("__classdict__":Str))=false)(hu:X.A.units+16<cLine)(sm:Same' cl X)(hk:zmj cl cn f)(ho:PE X o (tE cl E fo))(hb:attributeBase o f X.env (eval o X.env)=eval o X.env)(hs:zgD (.Name x p)):PE X (.Subscript (.Attribute o f apos) (.Name x p) pos) (tE cl E (zjZ cn f fo i)):=by
 refine PE.imp (zse (zsZ hu) (zhb ho hb) (zcl hN hv hd hcd) hs) ?_;rintro σ H Q ⟨B,w,ρ,S,rfl,R,q⟩;refine ⟨B,w,ρ,S,rfl,R,?_⟩;unfold zjZ at q
 cases hf:fo ρ S with
 | bad=>rwa [hf] at q
 | exc c S1=>rwa [hf] at q
 | ok d S1 =>
  rw [hf] at q;intro v w1 R1 F1 h1;dsimp only [Out.bind] at q
  cases hn:zke ρ i with
  | none=>rw [hn] at q;exact q.elim
  | some k =>
   cases hd:zgF cn f d S1 with
   | none=>rw [hn,hd] at q;exact q.elim
   | some t =>
    obtain ⟨n,ob,ds⟩:=t;rw [hn,hd] at q;dsimp only at q;obtain ⟨a,dx,fs,c,xs,m,rfl,_,_,_,hH,_,c1,c2,lv,_,hc,he,hs⟩:=zma hk R1 h1 hd;obtain ⟨kb,eσ,ks⟩:=zlt R1 hn
    cases hl:zbl k ds with
    | none=>rw [hl] at q;exact q.elim
    | some r =>
     rw [hl] at q
     rcases znG hs k with ⟨_,e2⟩ | ⟨y,r',e1,e2,sh⟩
     ·rw [hl] at e2;cases e2
     ·rw [hl] at e2;cases e2;rw [sm.kk];exact ⟨a,_,dx,fs,_,rfl,hH,c1,c2,lv,_,eσ,c,kb,k,xs,m,y,rfl,rfl,ks.at,by rw [sm.pp,sm.ww];exact hc,he.ents,e1,q _ w1 R1 F1 sh⟩
def zo3(hN:X.N[i]?=some x)(hv:Vis X.env.scope x)(hd:(x == ("__debug__":Str))=false)(hcd:(x == ("__classdict__":Str))=false)(hu:X.A.units+16<cLine)(sm:Same' cl X)(hk:zmj cl cn f)(ho:PE X o (tE cl E fo))(hb:attributeBase o f X.env (eval o X.env)=eval o X.env)(he:PE X e (tE cl E fe))
  (sw1:swapsWithSole [.Subscript (.Attribute o f apos) (.Name x p) p3] e pos.line X.env=pure false) (sw2:swappedStores [.Subscript (.Attribute o f apos) (.Name x p) p3] e X.env=pure none)
  (ha:∀v,assign (.Subscript (.Attribute o f apos) (.Name x p) p3) X.env v=(do
   let ov ← holding [v] (eval (.Attribute o f apos) X.env)
   let iv ← holding [v,ov] (eval (.Name x p) X.env)
   standAt p3
   holding [v,ov,iv] (setItem ov iv v)
   release [v,ov,iv] [])):PS X (.Assign [.Subscript (.Attribute o f apos) (.Name x p) p3] e pos) (tS cl E own (zjE cn f fo i fe)):=by
 refine PS.imp (ziM he (zoh (zhb ho hb) (zcl hN hv hd hcd) (zph hu) ha) sw1 sw2 rfl) ?_;rintro De σ H ⟨B,w,ρ,S,rfl,R,q⟩;refine ⟨B,w,ρ,S,rfl,R,?_⟩;unfold zjE at q
 cases hf:fe ρ S with
 | bad=>rwa [hf] at q
 | exc c S1=>rw [hf] at q;exact fun w' R' F'=>q σ w' R' F'
 | ok r S1 =>
  rw [hf] at q;intro v w1 R1 F1 h1;dsimp only at q;refine ⟨B,w1,ρ,S1,rfl,R1,?_⟩
  cases hfo:fo ρ S1 with
  | bad=>rwa [hfo] at q
  | exc c S2=>rw [hfo] at q;exact fun w' R' F'=>q σ w' R' (F1.trans F')
  | ok d S2 =>
   rw [hfo] at q;intro y w2 R2 F2 h2;dsimp only at q
   cases hn:zke ρ i with
   | none=>rw [hn] at q;exact q.elim
   | some k =>
    cases hd:zgF cn f d S2 with
    | none=>rw [hn,hd] at q;exact q.elim
    | some t =>
     obtain ⟨n,ob,ds⟩:=t;rw [hn,hd] at q;dsimp only at q;split at q
     ·rename_i hc0;rw [yac,yac] at hc0;obtain ⟨⟨z1,z2⟩,z3⟩:=hc0;obtain ⟨a,dx,fs,c,xs,m,rfl,hS,hmu,how,hH,hF,c1,c2,lv,oc,hc,he,hs⟩:=zma hk R2 h2 hd;obtain ⟨kb,eσ,ks⟩:=zlt R2 hn
      have hno:m.lookup k=none:=by
       rcases znG hs k with ⟨e1,_⟩ | ⟨_,_,_,e2,_⟩
       ·exact e1
       ·rw [e2] at z1;cases z1
      rw [sm.kk];refine ⟨a,_,dx,fs,_,rfl,hH,c1,c2,lv,_,eσ,c,kb,k,xs,m,rfl,rfl,ks.at,by rw [sm.pp,sm.ww];exact hc,he.ents,hno,by rw [zoE hs];exact yaq z2,fun u ru=>?_⟩;obtain ⟨R3,F3⟩:=R2.setd hS hmu how hH hF lv oc hc he hs ks ru (h1.up F2) z3;rw [sm.pp,sm.ww];exact q σ _ R3 (F1.trans (F2.trans F3))
     ·exact q.elim
def zo5(sm:Same' cl X)(hk:zmj cl cn f)(ho:PE X o (tE cl E fo))(he:PE X e (tE cl E fe))(hs:swapsWith e (some (.Attribute o f apos)) pos.line X.env=pure false):PS X (.Assign [.Attribute o f apos] e pos) (tS cl E own (zf3 cn f fo fe)):=by
 refine PS.imp (zoe ho he hs) ?_;rintro De σ H ⟨B,w,ρ,S,rfl,R,q⟩;refine ⟨B,w,ρ,S,rfl,R,?_⟩;unfold zf3 at q
 cases hf:fe ρ S with
 | bad=>rwa [hf] at q
 | exc c S1=>rw [hf] at q;exact fun w' R' F'=>q σ w' R' F'
 | ok r S1 =>
  rw [hf] at q;intro v w1 R1 F1 h1;dsimp only at q;refine ⟨B,w1,ρ,S1,rfl,R1,?_⟩
  cases hfo:fo ρ S1 with
  | bad=>rwa [hfo] at q
  | exc c S2=>rw [hfo] at q;exact fun w' R' F'=>q σ w' R' (F1.trans F')
  | ok d S2 =>
   rw [hfo] at q;intro y w2 R2 F2 h2
   cases d with
   | ref n =>
    dsimp only at q
    cases hS:S2[n]? with
    | none=>rw [hS] at q;exact q.elim
    | some ob =>
     rw [hS] at q;dsimp only at q;split at q
     ·rename_i hc0;rw [yac] at hc0;obtain ⟨a,dx,fs,rfl,hmu,how,hH,hF⟩:=zhL R2 h2 hS;rw [sm.kk];refine ⟨a,_,dx,fs,rfl,hH,yaq hc0.1 ▸ hk.1,yaq hc0.1 ▸ hk.2,by rw [hF.len];exact yaq hc0.2,?_⟩;obtain ⟨R3,F3⟩:=R2.setf (f:=f) hS hmu how hH hF (h1.up F2);exact q σ _ R3 (F1.trans (F2.trans F3))
     ·exact q.elim
   | _=>exact q.elim
def zo6(hN:X.N[i]?=some x)(hv:Vis X.env.scope x)(hd:(x == ("__debug__":Str))=false)(hcd:(x == ("__classdict__":Str))=false)(sm:Same' cl X)(hk:zmj cl cn f)(hs:swapsWith (.Dict [] [] p) (some (.Attribute (.Name x p2) f apos)) pos.line X.env=pure false):PS X (.Assign [.Attribute (.Name x p2) f apos] (.Dict [] [] p) pos) (tS cl E own (zjG cn f i)):=by
 refine PS.imp (zoe (zcl hN hv hd hcd) zpE hs) ?_;rintro De σ H ⟨B,w,ρ,S,rfl,R,q⟩;intro pd hpd;unfold zjG at q;split at q
 ·rename_i n hi;obtain ⟨v,ev,rv⟩:=R.slots i false _ hi
  cases hS:S[n]? with
  | none=>rw [hS] at q;exact q.elim
  | some ob =>
   rw [hS] at q;dsimp only at q;split at q
   ·rename_i hc0;rw [yac] at hc0;obtain ⟨a,dx,fs,rfl,hmu,how,hH,hF⟩:=zhL R rv hS;rw [sm.kk];refine ⟨_,ev,a,_,dx,fs,rfl,?_,yaq hc0.1 ▸ hk.1,yaq hc0.1 ▸ hk.2,by rw [hF.len];exact yaq hc0.2,?_⟩
    ·rw [zao (zav hH hpd)];exact hH
    ·obtain ⟨R3,F3⟩:=R.newf (f:=f) hS hmu how hH hF hpd;rw [sm.pp,sm.ww];exact q σ _ R3 F3
   ·exact q.elim
 ·exact q.elim
end
noncomputable def zgN(C:Addr)(m:Str)(sp:Sp)(dvs:List V)(E:St->XK)(ta:TE)(t:TA):TE:=fun σ H Q=>ta σ H fun x H1=>∃a dx fs,x=.ref a/\H1 a=some (.ins C dx fs)/\fs.lookup m=none ∧
 t σ H1 fun vs H2=>sp (x::(vs++dvs)) H2 Q (E σ)
noncomputable def zn2(C:Addr)(sp:Sp)(dvs:List V)(E:St->XK)(t:TA):TE:=fun σ H Q=>t σ H fun vs H1=>∀x dx,H1 x=none->H1 dx=none->dx≠x →
 sp (.ref x::(vs++dvs)) (upd (upd H1 dx (.own x)) x (.ins C dx [])) (fun v H2=>v=.non/\Q (.ref x) H2) (E σ)
section
variable{X:Cx}{CX:CXT}{k:Nat}{f C:Addr}{fd:FuncData}{ps:List Str}{sp:Sp}{dvs:List V}{ds:List Value}{E:St->XK}{x m:Str}{p pos apos:Pos}{e o:Expr}{es:List Expr}{ta:TE}{t:TA}
def zmS(he:PE X o ta)(c:Cls X.K C)(hm:Meth X.K C m f)(F:FnOk X.prog X.w X.K X.mg X.base CX k f fd ps sp)(hr:Room k X.A)(hb:zce X.K fd ps ds)(hd:Vals dvs ds)(hx:zdj CX X E)(ha:PA X (e::es) t)
  (hst:starEach (e::es) X.env=(false,eval e X.env)::starEach es X.env) (hpl:(backTo pos (starEach es X.env)).any (·.1)=false)
  (ht:eval (.Call (.Attribute o m apos) (e::es) [] pos) X.env=(do
   let ov ← eval o X.env
   standAt apos.atName
   let (f,first) ← holding [ov] (getMethod ov m pl)
   callWith pos f first (backTo pos (starEach (e::es) X.env)) (backToKw pos (keywordEach [] X.env)))) :
  PE X (.Call (.Attribute o m apos) (e::es) [] pos) (zgN C m sp dvs E ta t):=by
 intro pins s σ H Q I h;refine PySem.W.methodCall_KW (pl:=pl) (thn (he pins s σ H _ I h) fun u s1 ⟨x,H1,I1,rx,a,dx,fs,ex,ea,l,q⟩=>?_) ht;subst ex;obtain rfl:u=Value.ref a:=rx;refine zfM I1 ea c hm l ?_;refine ycY (first:=[.ref a]) (h₀:=X.base) I.ok.mod.kin hm.kp (thn (ha pos pins s1 σ H1 _ I1 q) fun us s2 ⟨vs,H2,I2,r,q2⟩=>⟨I2.kIn,?_⟩) hst hpl;exact zf6 (us:=.ref a::us) (vs:=.ref a::vs) F hr hb hd hx I2 (.cons rfl r) q2
def zkZ(he:PE X o ta)(c:Cls X.K C)(hm:Meth X.K C m f)(F:FnOk X.prog X.w X.K X.mg X.base CX k f fd ps sp)(hr:Room k X.A)(hb:zce X.K fd ps ds)(hd:Vals dvs ds)(hx:zdj CX X E)
  (ht:eval (.Call (.Attribute o m apos) [] [] pos) X.env=(do
   let ov ← eval o X.env
   standAt apos.atName
   let (f,first) ← holding [ov] (getMethod ov m pl)
   callWith pos f first (backTo pos (starEach [] X.env)) (backToKw pos (keywordEach [] X.env)))) :
  PE X (.Call (.Attribute o m apos) [] [] pos) (zgN C m sp dvs E ta ztI):=by
 intro pins s σ H Q I h;refine PySem.W.methodCall_KW (pl:=pl) (thn (he pins s σ H _ I h) fun u s1 ⟨x,H1,I1,rx,a,dx,fs,ex,ea,l,q⟩=>?_) ht;subst ex;obtain rfl:u=Value.ref a:=rx;refine zfM I1 ea c hm l ?_;exact PySem.W.callWith_K0 (first:=[.ref a]) I1.kIn hm.kp (zf6 (us:=[.ref a]) (vs:=[.ref a]) F hr hb hd hx I1 (.cons rfl .nil) q)
def zkK(M:Mk X.K C f)(F:FnOk X.prog X.w X.K X.mg X.base CX k f fd ps sp)(hr:Room (k+1) X.A)(hb:zce X.K fd ps ds)(hd:Vals dvs ds)
  (hx:zdj CX X E) (I:Inv X pins σ H s) (r:Vals vs us)
  (h:∀x dx,H x=none->H dx=none->dx≠x->sp (.ref x::(vs++dvs)) (upd (upd H dx (.own x)) x (.ins C dx [])) (fun v H2=>v=.non/\Q (.ref x) H2) (E σ)) :
  wpAny (model X.prog X.w) X.A (call (.ref C) us) (EP X pins σ Q) X.xe s:=by
 have hq:=h (s.heap.objs.size+1) s.heap.objs.size (I.hok.fresh (ybR _)) (I.hok.fresh (yaj _)) (yax (ybF _));have I2:=Inv.made (C:=C) I;have r2:Vals (V.ref (s.heap.objs.size+1)::(vs++dvs)) (Value.ref (s.heap.objs.size+1)::(us++ds)):=.cons rfl (r.append hd)
 have hl:(Value.ref (s.heap.objs.size+1)::us++ds).length=ps.length:=by
  have e:=r2.length;rw [F.len _ _ _ _ hq] at e;exact e.symm
 refine wpAny_call (znc (f:=f) I.kIn M.makes M.init (ycq.mp M.fn) (ycw (F.run _ X.stack _ _ ⟨Value.ref (s.heap.objs.size+1)::us,[]⟩ (Value.ref (s.heap.objs.size+1)::(us++ds)) _ _ (E σ) (hr.make C us [])
  (I2.env0.make C us []) (hb _ (Value.ref (s.heap.objs.size+1)::us) I2.kIn hl) r2 hq) fun r s' hq'=>?_))
 cases r with
 | error e=>exact hx pins σ _ _ e s' I2 hq'
 | ok fl =>
  cases fl with
  | ret u =>
   obtain ⟨v,H',I3,rv,ev,q3⟩:=I2.after hq';subst ev;exact ⟨rv,⟨V.ref (s.heap.objs.size+1),H',I3,rfl,q3⟩⟩
  | next=>exact False.elim hq'
  | brk=>exact False.elim hq'
  | cont=>exact False.elim hq'
def ziO(M:Mk X.K C f)(F:FnOk X.prog X.w X.K X.mg X.base CX k f fd ps sp)(hr:Room (k+1) X.A)(hg:Gl X x)(hm:X.mg x=some (.ref C))(hb:zce X.K fd ps ds)(hd:Vals dvs ds)(hx:zdj CX X E)
  (ha:PA X (e::es) t) (hdb:(x == ("__debug__":Str))=false) (he:starEach (e::es) X.env=(false,eval e X.env)::starEach es X.env) (hpl:(backTo pos (starEach es X.env)).any (·.1)=false) :
  PE X (.Call (.Name x p) (e::es) [] pos) (zn2 C sp dvs E t):=by
 intro pins s σ H Q I h;refine ybW (ze7 I hg hm ?_ hdb);refine ycY (h₀:=X.base) I.ok.mod.kin M.kp (thn (ha pos pins s σ H _ I h) fun us s1 ⟨vs,H1,I1,r,q⟩=>⟨I1.kIn,?_⟩) he hpl;exact zkK M F hr hb hd hx I1 r q
end
section
variable{cl:Cf}{E:St->XK}{fs:List Fe}{fo:Fe}{G:List D->Sto->Out D}{σ:St}{H:Hp}{Q:VK}{n:Nat}{c m:Str}{ρ:Env}
theorem zd2:∀{fs:List Fe} {S S1:Sto} {ds:List D},zal fs ρ S=.ok ds S1->ds.length=fs.length
 | [],S,S1,ds,h=>by cases h;rfl
 | f::fs,S,S1,ds,h=>by
  unfold zal at h
  cases h1:f ρ S with
  | bad=>rw [h1] at h;cases h
  | exc c S2=>rw [h1] at h;cases h
  | ok d S2 =>
   rw [h1] at h;dsimp only [Out.bind] at h
   cases h2:zal fs ρ S2 with
   | bad=>rw [h2] at h;cases h
   | exc c S3=>rw [h2] at h;cases h
   | ok es S3=>rw [h2] at h;cases h;rw [yan,yan,zd2 h2]
def zlf(R:Rel cl B σ w ρ S)(hv:Shd cl w v d)(h:zc2 c m d S=true):∃a dx fs,v=.ref a/\w.H a=some (.ins (cl c) dx fs)/\fs.lookup m=none:=by
 unfold zc2 at h
 cases d with
 | ref n =>
  dsimp only at h
  cases hS:S[n]? with
  | none=>rw [hS] at h;cases h
  | some ob =>
   rw [hS] at h;dsimp only at h;rw [yac] at h;obtain ⟨a,dx,fs,rfl,_,_,hH,hF⟩:=zhL R hv hS;have e:=yaq h.1;subst e;exact ⟨a,dx,fs,rfl,hH,hF.miss (by simpa using h.2)⟩
 | _=>cases h
def zsJ(q:tE cl E (zb9 c m G fo fs) σ H Q)(hn:fs.length+1=n):zgN (cl c) m (zgQ cl n false G) [] E (tE cl E fo) (tAs cl E fs) σ H Q:=by
 obtain ⟨B,w,ρ,S,rfl,R,q⟩:=q;refine ⟨B,w,ρ,S,rfl,R,?_⟩;unfold zb9 at q
 cases hfo:fo ρ S with
 | bad=>rwa [hfo] at q
 | exc c S1=>rwa [hfo] at q
 | ok d S0 =>
 rw [hfo] at q;intro v w0 R0 F0 h0;dsimp only [Out.bind] at q
 cases hok:zc2 c m d S0 with
 | false=>rw [hok] at q;exact q.elim
 | true =>
 rw [hok,if_pos rfl] at q;obtain ⟨a,dx,fs',rfl,hH,hm⟩:=zlf R0 h0 hok;refine ⟨a,dx,fs',rfl,hH,hm,B,w0,ρ,S0,rfl,R0,?_⟩
 cases hf:zal fs ρ S0 with
 | bad=>rwa [hf] at q
 | exc c S1=>rw [hf] at q;exact fun w1 R1 F1=>q w1 R1 (F0.trans F1)
 | ok ds S1 =>
  rw [hf] at q;intro vs w1 R1 F1 h1;dsimp only at q;refine ⟨?_,w1.base,w1.inn,d::ds,S1,rfl,R1.wd.enter,?_,?_⟩
  ·rw [yaS,yan,h1.length,zd2 hf];exact hn
  ·rw [yaS];exact .cons ((h0.up F1).up (zcu w1)) (h1.up (zcu w1))
  cases hg:G (d::ds) S1 with
  | bad=>rwa [hg] at q
  | exc c S2 =>
   rw [hg] at q;intro w2 W2 F2;obtain ⟨R3,F3⟩:=R1.leave W2 F2;exact q (w1.back w2) R3 (F0.trans (F1.trans F3))
  | ok r S2 =>
   rw [hg] at q;intro v w2 W2 F2 r2;obtain ⟨R3,F3⟩:=R1.leave W2 F2;exact q v (w1.back w2) R3 (F0.trans (F1.trans F3)) (Shd.up (zds W2) r2)
def zsI(q:tN cl E (zb9 c m G fo fs) σ H Q)(hn:fs.length+1=n):zgN (cl c) m (zgQ cl n true G) [] E (tE cl E fo) (tAs cl E fs) σ H Q:=by
 obtain ⟨B,w,ρ,S,rfl,R,q⟩:=q;refine ⟨B,w,ρ,S,rfl,R,?_⟩;unfold zb9 at q
 cases hfo:fo ρ S with
 | bad=>rwa [hfo] at q
 | exc c S1=>rwa [hfo] at q
 | ok d S0 =>
 rw [hfo] at q;intro v w0 R0 F0 h0;dsimp only [Out.bind] at q
 cases hok:zc2 c m d S0 with
 | false=>rw [hok] at q;exact q.elim
 | true =>
 rw [hok,if_pos rfl] at q;obtain ⟨a,dx,fs',rfl,hH,hm⟩:=zlf R0 h0 hok;refine ⟨a,dx,fs',rfl,hH,hm,B,w0,ρ,S0,rfl,R0,?_⟩
 cases hf:zal fs ρ S0 with
 | bad=>rwa [hf] at q
 | exc c S1=>rw [hf] at q;exact fun w1 R1 F1=>q w1 R1 (F0.trans F1)
 | ok ds S1 =>
  rw [hf] at q;intro vs w1 R1 F1 h1;dsimp only at q;refine ⟨?_,w1.base,w1.inn,d::ds,S1,rfl,R1.wd.enter,?_,?_⟩
  ·rw [yaS,yan,h1.length,zd2 hf];exact hn
  ·rw [yaS];exact .cons ((h0.up F1).up (zcu w1)) (h1.up (zcu w1))
  cases hg:G (d::ds) S1 with
  | bad=>rwa [hg] at q
  | exc c S2 =>
   rw [hg] at q;intro w2 W2 F2;obtain ⟨R3,F3⟩:=R1.leave W2 F2;exact q (w1.back w2) R3 (F0.trans (F1.trans F3))
  | ok r S2 =>
   rw [hg] at q;intro v w2 W2 F2 r2;obtain ⟨R3,F3⟩:=R1.leave W2 F2;obtain ⟨a,o,i,rfl,k1,k2,t⟩:=r2;have hfr:w1.base.Fr a=none:=(W2.own a _ k1).elim (fun z=>by cases z) fun z=>z
   have k3:(w1.back w2).ow a=some .far:=by
    show (if (w1.base.Fr a).isSome=true then w1.ow a else Root.out (w2.ow a))=_;rw [hfr,k1];rfl
   have hb:B.Fr a=none:=by
    cases z:B.Fr a with
    | none=>rfl
    | some u=>rw [zdQ R1.wd z] at hfr;cases hfr
   have hd:=zii (w:=w1.back w2) (a:=a) (by rw [k3];exact yaE _);have:=q a o ((w1.back w2).del a) (R3.del k3 hb) (F0.trans (F1.trans (F3.trans hd))) (if_pos rfl) ((t.up (zds W2)).up hd);rwa [zkl (w:=w1.back w2) k2] at this
def zwU(hdv:∀w,Shds cl w dvs dds)(q:tE cl E (eMk c dds G fs) σ H Q)(hn:fs.length+dds.length+1=n):zn2 (cl c) (zgQ cl n false G) dvs E (tAs cl E fs) σ H Q:=by
 obtain ⟨B,w,ρ,S,rfl,R,q⟩:=q;refine ⟨B,w,ρ,S,rfl,R,?_⟩;unfold eMk at q
 cases hf:zal fs ρ S with
 | bad=>rwa [hf] at q
 | exc c S1=>rwa [hf] at q
 | ok ds S1 =>
  rw [hf] at q;intro vs w1 R1 F1 h1;dsimp only [Out.bind] at q;intro x dx hx hdx ne;obtain ⟨R2,F2⟩:=R1.made (c:=c) hx hdx ne
  have hmu:(w1.addO x dx (cl c) S1.length).mu[S1.length]?=some x:=by
   show (w1.mu++[x])[S1.length]?=some x;rw [yas (by rw [R1.wd.len];exact yaj _),R1.wd.len,ybw];rfl
  refine ⟨?_,(w1.addO x dx (cl c) S1.length).base,(w1.addO x dx (cl c) S1.length).inn,.ref S1.length::(ds++dds),S1++[⟨c,[]⟩],rfl,R2.wd.enter,?_,?_⟩
  ·rw [yan,yam,h1.length,zd2 hf,(hdv w1).length];exact hn
  ·exact .cons (.ref hmu) (((h1.up F2).up (zcu _)).append (hdv _))
  cases hg:G (.ref S1.length::(ds++dds)) (S1++[⟨c,[]⟩]) with
  | bad=>rwa [hg] at q
  | exc c S2 =>
   rw [hg] at q;intro w2 W2 F3;obtain ⟨R3,F4⟩:=R2.leave W2 F3;exact q ((w1.addO x dx _ S1.length).back w2) R3 (F1.trans (F2.trans F4))
  | ok r S2 =>
   rw [hg] at q;intro v w2 W2 F3 r2
   cases r with
   | non =>
    obtain ⟨R3,F4⟩:=R2.leave W2 F3;refine ⟨by cases r2;rfl,q (.ref x) ((w1.addO x dx _ S1.length).back w2) R3 (F1.trans (F2.trans F4)) (.ref (F4.mu _ _ hmu))⟩
   | _=>exact q.elim
end
end S2
namespace L2
open PySem PySem.Spec PyProof.Rows
section
variable{X:Cx}
noncomputable def zvE(ns:List Int):Nat:=argBest (fun i j=>decide (ns.getD i 0<ns.getD j 0)) (ns.length-1)
def zyR(ns:List Int):Int:=ns.getD (zvE ns) 0
end
end L2
namespace S2
open PySem PySem.Spec PyProof.Rows L2
noncomputable def zt0:Operator->Option (Int->Int->Int) | .Add=>some (·+·) | .Sub=>some (· - ·) | _=>none
noncomputable def zrQ(i:Nat)(g:Int->Int->Int)(fe:Fe):Fs:=fun ρ S=>match ρ[i]? with
 | some (some (false,.int a))=>(match fe ρ S with
  | .ok (.int b) S1=>.nx (ρ.set i (some (false,.int (g a b)))) S1
  | .ok _ _=>.bad
  | .exc c S1=>.ex c ρ S1
  | .bad=>.bad)
 | _=>.bad
noncomputable def lrD:D->Option D | .int n=>if decide (0<=n/\n<=1000) then some (.lst ((List.range n.toNat).map fun (i:Nat)=>D.int (i:Int))) else none | _=>none
section
variable{cl:Cf}{X:Cx}{E:St->XK}{e:Expr}{fe f:Fe}{pos:Pos}{own:Bool}
def zrt(hop:zt0 op=some g)(hN:X.N.Nodup)(hi:X.N[i]?=some x)(hx:Loc X.env.scope x)(he:PE X e (tE cl E fe))(hf:X.fn x=true\/X.env.scope.names.lookup x=some .local):PS X (.AugAssign (.Name x p) op e pos) (tS cl E own (zrQ i g fe)):=by
 have main:∀ti:TIp,PIp X op ti->(∀a b H Q,Q (.int (g a b)) H->ti (.int a) (.int b) H Q)->PS X (.AugAssign (.Name x p) op e pos) (tS cl E own (zrQ i g fe)):=by
  intro ti ho hti;refine PS.imp (zr6 hN hi hx he ho hf) ?_;rintro De σ H ⟨B,w,ρ,S,rfl,R,q⟩;unfold zrQ at q;split at q
  ·rename_i a ha;obtain ⟨v,ev,rv⟩:=R.slots i false _ ha;have rv':Shd cl w v (.int a):=rv;cases rv';refine ⟨_,ev,B,w,ρ,S,rfl,R,?_⟩
   cases hfe:fe ρ S with
   | bad=>rwa [hfe] at q
   | exc c S1=>rw [hfe] at q;exact fun w' R' F'=>q σ w' R' F'
   | ok d S1 =>
    rw [hfe] at q;intro y w1 R1 F1 h1
    cases d with
    | int b =>
     cases h1;exact hti a b _ _ (q _ w1 (R1.put (.int _)) F1)
    | _=>exact q.elim
  ·exact q.elim
 cases op<;>simp [zt0] at hop<;>subst hop
 ·exact main zwN zs4 fun a b H Q q=>⟨a,b,rfl,rfl,q⟩
 ·exact main zwM zs3 fun a b H Q q=>⟨a,b,rfl,rfl,q⟩
theorem zho:∀l:List Nat,Shds cl w (l.map fun (i:Nat)=>V.int (i:Int)) (l.map fun (i:Nat)=>D.int (i:Int))
 | []=>.nil
 | a::l=>.cons (.int _) (zho l)
theorem zj5:bootBuiltins "list" = some (.type "list"):=by decide +kernel
theorem zuC(hc:X.calm=true)(hg:Gl X "list")(hm:X.mg "list" = none)(hg2:Gl X "range")(hm2:X.mg "range" = none)(he:PE X e (tE cl E f))(hs:starEach [e] X.env=[(false,eval e X.env)]) :
  PE X (.Call (.Name "list" p) [.Call (.Name "range" p2) [e] [] pos2] [] pos) (tN cl E (eUn lrD f)):=by
 refine PE.imp (zc1 (zgx hc) hg hm zj5 (za7 (zr9 hg2 hm2 (zcs he zeo hs) hs) zcF)) ?_;rintro σ H Q ⟨B,w,ρ,S,rfl,R,q⟩;refine ⟨B,w,ρ,S,rfl,R,?_⟩;unfold eUn at q
 cases hf:f ρ S with
 | bad=>rw [hf] at q;exact q.elim
 | exc c S1=>rw [hf] at q;simp only [zal,hf,Out.bind];exact q
 | ok d S1 =>
  rw [hf] at q;simp only [zal,hf,Out.bind];intro vs w1 R1 F1 sh;dsimp only [Out.bind] at q
  cases hl:lrD d with
  | none=>rw [hl] at q;exact q.elim
  | some r =>
   rw [hl] at q;unfold lrD at hl;split at hl
   ·rename_i n;split at hl
    ·rename_i hz;cases hl;have hz':=yaq hz
     cases sh with
     | cons h1 hn =>
      cases hn;cases h1;refine ⟨n,rfl,hz'.1,hz'.2,fun pr hpr=>⟨pr,n.toNat,rfl,?_,by omega,fun l hl=>?_⟩⟩
      ·rw [show ((n.toNat:Nat):Int)=n by omega];exact zay
      ·exact q l _ (w1.add pr (.rng 0 n)) (R1.grow (zau hpr _)) (F1.trans (zau hpr _).fut) hl (.lst (zho _))
    ·cases hl
   ·cases hl
def zm2:OpR X (compareOp .Is) (fun x y H Q=>∃i j,x=.bl i/\y=.bl j/\Q (.bl (decide (i=j))) H):=by
 intro pins s σ H x y v u Q I rx ry h;obtain ⟨i,j,rfl,rfl,q⟩:=h;cases rx;cases ry;refine wpAny_is_plain (by rfl) ?_;refine ⟨.bl (decide (i=j)),H,I,?_,q⟩;show _=Value.bool _;congr 1
 cases i<;>cases j<;>rfl
noncomputable def zvj:D->D->Option D | .bl a,.bl b=>some (.bl (decide (a=b))) | _,_=>none
def zsy:OpD X cl (compareOp .Is) zvj:=by
 intro pins s σ H x y v u Q I rx ry h;obtain ⟨w,d,e,r,rfl,hx,hy,hg,q⟩:=h;unfold zvj at hg;split at hg
 ·cases hg;obtain rfl:=hx.blI;obtain rfl:=hy.blI;exact zm2 pins s σ w.H _ _ v u Q I rx ry ⟨_,_,rfl,rfl,q _ w (Grow.refl _) (.bl _)⟩
 ·cases hg
def zu0:List D->Option D
 | [.lst l]=>(zbB l).bind fun ns=>if ns.isEmpty then none else some (.int (zyR ns))
 | ds=>zyS ds
end
end S2
namespace L2
open PySem PySem.Spec PyProof.Rows
section
variable{X:Cx}{pins:Z3}{σ:St}{H:Hp}{s:Shared}{a:Addr}{ps:List (Option Int×Int)}
def Inv.do_addr(I:Inv X pins σ H s)(h:H a=some (.ext (DO X.prog X.w a' ps))):a'=a:=by
 apply Classical.byContradiction;intro hne;obtain ⟨dp,_,st⟩:=I.hok a _ h;obtain ⟨vs,⟨o,es,ep,h1,h2,h3⟩,_⟩:=id dp;have dp2:=st s.heap (s.heap.update a' fun _=>{ cls:=.type "list",data:=.seq #[] }) dp (fun q e=>(Heap.get?_update_ne _ _ _ _ (fun z=>hne z.symm)).trans e);obtain ⟨vs2,⟨o2,es2,ep2,g1,g2,_⟩,_⟩:=dp2;rw [ybp (fun _=>{ cls:=.type "list",data:=.seq #[] }) h1 rfl] at g1;cases g1;exact absurd g2.1 (by decide)
def zok(r:zbr (oV k) u):(zct X.prog X.w).is k u=true:=by
 cases k with
 | none=>cases (show u=Value.none from r);rfl
 | some i =>
  obtain ⟨t,rfl⟩:=(show ∃t,u=Value.int i t from r);simp [zct,zjK,Value.isInt]
noncomputable abbrev DoP:(Option Int×Value)->(Option Int×Int)->Prop:=fun v p=>v.1=p.1/\∃t,v.2=.int p.2 t
noncomputable def zoc(ps:List (Option Int×Int))(k:Option Int)(v:Int):List (Option Int×Int):=if (ps.any fun p=>decide (p.1=k)) then ps.map (fun p=>if p.1=k then (p.1,v) else p) else ps++[(k,v)]
noncomputable def zd0(ps:List (Option Int×Int))(k:Option Int):Option Int:=(ps.find? fun p=>decide (p.1=k)).map (·.2)
def zth(r:Paired DoP vs ps)(k:Option Int):(vs.any fun v=>decide (v.1=k))=ps.any fun p=>decide (p.1=k):=by
 induction r with
 | nil=>rfl
 | cons h _ ih=>rw [List.any_cons,List.any_cons,ih,h.1]
def zqu(r:Paired DoP vs ps)(k:Option Int)(v:Int)(t:Tok):Paired DoP (vs.map fun x=>if x.1=k then (x.1,.int v t) else x) (ps.map fun p=>if p.1=k then (p.1,v) else p):=by
 induction r with
 | nil=>exact .nil
 | @cons x p xs ps h _ ih =>
  rw [yav,yav];refine .cons ?_ ih;obtain ⟨h1,h2⟩:=h
  by_cases e:p.1=k
  ·rw [if_pos e,if_pos (h1.trans e)];exact ⟨h1,t,rfl⟩
  ·rw [if_neg e,if_neg (fun z=>e (h1.symm.trans z))];exact ⟨h1,h2⟩
def ztg(r:Paired DoP vs ps)(k:Option Int)(v:Int)(t:Tok):Paired DoP (stored vs k (.int v t)) (zoc ps k v):=by
 unfold stored zoc;rw [zth r k];split
 ·exact zqu r k v t
 ·exact Paired.snoc r ⟨rfl,t,rfl⟩
def ztf(r:Paired DoP vs ps)(k:Option Int):(zd0 ps k=none/\valueAt vs k=none)\/∃v t,zd0 ps k=some v/\valueAt vs k=some (.int v t):=by
 induction r with
 | nil=>exact .inl ⟨rfl,rfl⟩
 | @cons x p xs ps h _ ih =>
  obtain ⟨h1,t,h2⟩:=h
  by_cases e:p.1=k
  ·refine .inr ⟨p.2,t,?_,?_⟩
   ·unfold zd0;rw [ybY,yaB e];rfl
   ·have e':x.1=k:=h1.trans e;simp [valueAt,ybY,e',h2]
  ·have e':¬ x.1=k:=fun z=>e (h1.symm.trans z)
   have b1:zd0 (p::ps) k=zd0 ps k:=by unfold zd0;rw [ybY,yaW e]
   have b2:valueAt (x::xs) k=valueAt xs k:=by simp [valueAt,ybY,e']
   rw [b1,b2];exact ih
noncomputable def zrd(P:Program)(w:World):TE:=fun _ H Q=>∀p,H p=none->Q (.ref p) (upd H p (.ext (DO P w p [])))
def zmU:PE X (.Dict [] [] pos) (zrd X.prog X.w):=fun pins s σ H Q I h=>by
 have hne:(s.heap.objs.size == sysModules)=false:=yaR.mpr (Ne.symm (yax I.big));have dn:DO X.prog X.w s.heap.objs.size [] (s.heap.push { cls:=.type "dict",data:=.dict #[] }):=⟨[],Heap.DictOf.new s.heap,.nil,hne⟩;refine wpAny_Dict_empty ⟨.ref s.heap.objs.size,upd H s.heap.objs.size (.ext (DO X.prog X.w s.heap.objs.size [])),?_,rfl,h _ (I.hok.fresh (yaj _))⟩;exact I.laid (a:=s.heap.objs.size) (t':=s.toks) (fun _ _ q=>yag _ q) (yaj _) ⟨dn,⟨_,yao _ rfl⟩,zjj⟩
def zmv:zvQ X (fun o i v H Q=>∃(a a':Addr) (k:Option Int) (n:Int) (ps:List (Option Int×Int)),o=.ref a/\i=oV k/\v=.int n/\H a=some (.ext (DO X.prog X.w a' ps))/\ps.length<=1000000/\Q (upd H a (.ext (DO X.prog X.w a' (zoc ps k n))))):=by
 intro pins s σ H o i v ov iv u Q I ro ri rv h;obtain ⟨a,a',k,n,ps,rfl,rfl,rfl,hx,hz,q⟩:=h;cases ro;obtain ⟨t,rfl⟩:=(show ∃t,u=Value.int n t from rv);obtain rfl:=I.do_addr hx;obtain ⟨⟨vs,dd,rel,hd⟩,_⟩:=I.hok _ _ hx;have hl:vs.length=ps.length:=Paired.length rel;refine wpAny_setItem_pairs (hsz:=by rw [hl];exact yak hz (by decide)) (zok ri) dd fun h' dd' hs=>⟨_,?_,q⟩
 have he:∃q,h'.get? a'=some q:=let ⟨q,_,_,hq,_⟩:=dd';⟨q,hq⟩
 exact I.write (x:=a') (e:=a') (by rw [hx];trivial) (.inl rfl) (fun b o hb z=>(hs.2 b hb).trans z) he ⟨⟨_,dd',ztg rel k n t,hd⟩,he,zjj⟩
noncomputable def zre(P:Program)(w:World)(td ty tx:TE):TE:=fun σ H Q=>td σ H fun x H1=>∃(a a':Addr) (ps:List (Option Int×Int)),x=.ref a/\H1 a=some (.ext (DO P w a' ps))/\ty σ H1 fun y H2=>tx σ H2 fun z H3=>∃k a2,y=oV k/\H3 a=some (.ext (DO P w a2 ps))/\Q (((zd0 ps k).map V.int).getD z) H3
def zmV(ho:PE X o td)(he:PE X e ty)(hf:PE X f tx)(m:M2 X o "get" apos e f cpos):PE X (.Call (.Attribute o "get" apos) [e,f] [] cpos) (zre X.prog X.w td ty tx):=by
 intro pins s σ H Q I h;refine wpAny_Call_method m.base m.few m.line PySem.F.plainAttrs_dict PySem.F.slot_dict_get PySem.F.type_dict_get (thn (ho pins s σ H _ I h) fun u s1 ⟨x,H1,I1,rx,a,a',ps,ex,d,q1⟩=>?_);subst ex;obtain rfl:u=Value.ref a:=rx;obtain rfl:=I1.do_addr d;obtain ⟨⟨vs,dd,_,_⟩,_⟩:=I1.hok _ _ d;refine ⟨dd.typeIs,fun b q=>?_,?_⟩
 ·cases q;obtain ⟨ob,_,_,h1,h2,_⟩:=dd;exact ⟨ob,h1,h2.2.1⟩
 rw [m.trees]
 refine yco rfl (yb4 (ycV (thn (he pins s1 σ H1 _ I1 q1) fun iv s2 ⟨y,H2,I2,ry,q2⟩ =>
  ycV (thn (hf pins s2 σ H2 _ I2 q2) fun fv s3 ⟨z,H3,I3,rz,k,a2,ey,d3,q3⟩=>Calls.spliced_nil ?_))))
 subst ey;obtain rfl:=I3.do_addr d3;obtain ⟨⟨vs3,dd3,rel,hd⟩,_⟩:=I3.hok _ _ d3;refine call_meetsIn PySem.F.slot_dict_get dd3.typeIs PySem.F.entry_dict_get (PySem.F.args_dict_get_3 _ _ _) (meets_dict_get_default (zct X.prog X.w) _ (zok ry) hd fv) ⟨_,dd3.mapOf,_,_,I3.tok _,?_,q3⟩
 rcases ztf rel k with ⟨e1,e2⟩ | ⟨v,t,e1,e2⟩
 ·rw [e1,e2];exact rz
 ·rw [e1,e2];exact ⟨t,rfl⟩
end
end L2
namespace S2
open PySem PySem.Spec PyProof.Rows L2
noncomputable def asO:D->Option (Option Int) | .non=>some none | .int i=>some (some i) | _=>none
def zmd(h:Shd cl w v d)(e:asO d=some k):v=oV k:=by
 cases h<;>first | (cases e;done) | (cases e;rfl)
def psO:List (D×D)->Option (List (Option Int×Int))
 | []=>some []
 | (k,.int v)::l=>(asO k).bind fun k=>(psO l).bind fun ps=>some ((k,v)::ps)
 | _=>none
theorem ze1:∀ps:List (Option Int×Int),psO (ps.map fun p=>(oI p.1,.int p.2))=some ps
 | []=>rfl
 | (none,v)::ps=>by
  show (psO (ps.map _)).bind _=_;rw [ze1 ps];rfl
 | (some i,v)::ps=>by
  show (psO (ps.map _)).bind _=_;rw [ze1 ps];rfl
theorem zof:∀{ds:List (D×D)} {ps:List (Option Int×Int)},psO ds=some ps->ds=ps.map fun p=>(oI p.1,.int p.2)
 | [],ps,h=>by cases h;rfl
 | (k,v)::l,ps,h=>by
  cases v with
  | int n =>
   obtain ⟨k',h1,h⟩:=Option.bind_eq_some_iff.mp (show ((asO k).bind fun k=>(psO l).bind fun ps=>some ((k,n)::ps))=some ps from h);obtain ⟨qs,h2,h⟩:=Option.bind_eq_some_iff.mp h;cases h;rw [zof h2]
   cases k<;>first | (cases h1;done) | (cases h1;rfl)
  | _=>cases h
def zfQ(ps:List (Option Int×Int)):D:=.dic ((.bl true,.non)::odD ps)
noncomputable def znr:D->Option (List (Option Int×Int)) | .dic ((.bl true,.non)::(.non,.non)::ds)=>psO ds | _=>none
def znq(h:znr d=some ps):d=zfQ ps:=by
 unfold znr at h;split at h
 ·rw [zof h];rfl
 ·cases h
def zgR(i:Nat)(ρ:Env):Option (Bool×List (Option Int×Int)):=match ρ[i]? with | some (some (o,d))=>(znr d).map fun ps=>(o,ps) | _=>none
def ziF(h:zgR i ρ=some (o,ps)):ρ[i]?=some (some (o,zfQ ps)):=by
 unfold zgR at h;split at h
 ·rename_i o' d e
  cases hd:znr d with
  | none=>rw [hd] at h;cases h
  | some x=>rw [hd] at h;cases h;rw [e,znq hd]
 ·cases h
section
variable{X:Cx}{cl:Cf}{E:St->XK}{w:Wd}
def zoB(h:Exd cl w o (odD ps)):∃a',o=.ext (DO cl.P cl.wo a' ps):=by
 generalize hq:odD ps=ds at h
 cases h with
 | @od a ps' =>
  have e:=(List.cons.inj hq).2;have:=congrArg psO e;rw [ze1,ze1] at this;cases this;exact ⟨a,rfl⟩
def Rel.dco(R:Rel cl B σ w ρ S)(h:ρ[i]?=some (some (o,zfQ ps))):∃a a',σ[i]?=some (some (.ref a))/\(o=true->w.ow a=some (.slot i))/\w.H a=some (.ext (DO cl.P cl.wo a' ps)):=by
 obtain ⟨v,e1,r⟩:=R.slots i o _ h
 cases o with
 | false =>
  have r':Shd cl w v (.dic ((.bl true,.non)::odD ps)):=r;generalize hq:odD ps=q at r'
  cases r' with
  | dicK _ _ z=>cases z
  | dicX e _ x =>
   rw [<-hq] at x;obtain ⟨a',rfl⟩:=zoB x;exact ⟨_,a',e1,(fun z=>nomatch z),e⟩
 | true =>
  obtain ⟨a,o,rfl,h1,h2,t⟩:=r;have t':Top cl w o (.dic ((.bl true,.non)::odD ps)):=t;generalize hq:odD ps=q at t'
  cases t' with
  | dicK z=>cases z
  | dicX x =>
   rw [<-hq] at x;obtain ⟨a',rfl⟩:=zoB x;exact ⟨a,a',e1,fun _=>h1,h2⟩
def znF:Fe:=fun _ S=>.ok (zfQ []) S
def zhZ(sm:Same' cl X):PE X (.Dict [] [] pos) (tN cl E znF):=PE.imp zmU fun σ H Q ⟨B,w,ρ,S,e,R,q⟩=>by
 subst e;intro p hp;rw [sm.pp,sm.ww];exact q p _ w R (Fut.refl _) hp (.dicX (ds:=odD []) .od)
def zhy(i:Nat)(f g:Fe):Fe:=fun ρ S=>match zgR i ρ with
 | some p=>(f ρ S).bind fun k S1=>(g ρ S1).bind fun z S2=>(match asO k with | some j=>.ok (((zd0 p.2 j).map D.int).getD z) S2 | none=>.bad)
 | none=>.bad
def zh1(i:Nat)(fk fe:Fe):Fs:=fun ρ S=>match zgR i ρ with
 | some (true,ps)=>(match fe ρ S with
  | .ok d S1=>(match fk ρ S1 with
   | .ok k S2=>(match asO k,d with
    | some j,.int v=>if zaH ps.length then .nx (ρ.set i (some (true,zfQ (zoc ps j v)))) S2 else .bad
    | _,_=>.bad)
   | .exc c S2=>.ex c ρ S2 | .bad=>.bad)
  | .exc c S1=>.ex c ρ S1 | .bad=>.bad)
 | _=>.bad
variable{own:Bool}{a b e:Expr}{f g fe fk:Fe}{pos pos':Pos}{i:Nat}{x:Str}{ap cp:Pos}
def zpn(sm:Same' cl X)(hN:X.N[i]?=some x)(hv:Vis X.env.scope x)(hd:(x == ("__debug__":Str))=false)(hcd:(x == ("__classdict__":Str))=false)(hf:PE X a (tE cl E f))(hg:PE X b (tE cl E g))(m:M2 X (.Name x pos') "get" ap a b cp) :
  PE X (.Call (.Attribute (.Name x pos') "get" ap) [a,b] [] cp) (tE cl E (zhy i f g)):=by
 refine PE.imp (zmV (zcl hN hv hd hcd) hf hg m) ?_;rintro σ H Q ⟨B,w,ρ,S,rfl,R,q⟩;unfold zhy at q
 cases hs:zgR i ρ with
 | none=>rw [hs] at q;exact q.elim
 | some p =>
  obtain ⟨o,ps⟩:=p;rw [hs] at q;have hρ:=ziF hs;obtain ⟨ad,a',e1,h1,h2⟩:=R.dco hρ;refine ⟨_,e1,ad,a',ps,rfl,by rw [sm.pp,sm.ww];exact h2,B,w,ρ,S,rfl,R,?_⟩
  cases hfv:f ρ S with
  | bad=>rwa [hfv] at q
  | exc c S1=>rwa [hfv] at q
  | ok k S1 =>
   rw [hfv] at q;dsimp only [Out.bind] at q;intro y w1 R1 F1 sy;refine ⟨B,w1,ρ,S1,rfl,R1,?_⟩
   cases hgv:g ρ S1 with
   | bad=>rwa [hgv] at q
   | exc c S2=>rw [hgv] at q;exact fun w2 R2 F2=>q w2 R2 (F1.trans F2)
   | ok z S2 =>
    rw [hgv] at q;dsimp only at q;intro zv w2 R2 F2 sz
    cases hk:asO k with
    | none=>rw [hk] at q;exact q.elim
    | some j =>
     rw [hk] at q;dsimp only at q;have ey:=zmd sy hk;subst ey;obtain ⟨ad',a2,e1',_,h2'⟩:=R2.dco hρ;rw [e1] at e1';cases e1';refine ⟨j,a2,rfl,by rw [sm.pp,sm.ww];exact h2',?_⟩
     cases hl:zd0 ps j with
     | none=>rw [hl] at q;exact q zv w2 R2 (F1.trans F2) sz
     | some n=>rw [hl] at q;exact q (.int n) w2 R2 (F1.trans F2) (.int n)
def zo2(sm:Same' cl X)(hN:X.N[i]?=some x)(hv:Vis X.env.scope x)(hd:(x == ("__debug__":Str))=false)(hcd:(x == ("__classdict__":Str))=false)(hk:PE X a (tE cl E fk))(he:PE X e (tE cl E fe))(sw:swapsWithSole [.Subscript (.Name x pos') a p3] e pos.line X.env=pure false)(sw2:swappedStores [.Subscript (.Name x pos') a p3] e X.env=pure none)
  (ha:∀v,assign (.Subscript (.Name x pos') a p3) X.env v=(do
   let ov ← holding [v] (eval (.Name x pos') X.env)
   let iv ← holding [v,ov] (eval a X.env)
   standAt p3
   holding [v,ov,iv] (setItem ov iv v)
   release [v,ov,iv] [])) :
  PS X (.Assign [.Subscript (.Name x pos') a p3] e pos) (tS cl E own (zh1 i fk fe)):=by
 refine PS.imp (ziM he (zoh (zcl hN hv hd hcd) hk zmv ha) sw sw2 rfl) ?_;rintro De σ H ⟨B,w,ρ,S,rfl,R,q⟩;unfold zh1 at q
 cases hs:zgR i ρ with
 | none=>rw [hs] at q;exact q.elim
 | some p =>
  obtain ⟨o,ps⟩:=p
  cases o with
  | false=>rw [hs] at q;exact q.elim
  | true =>
   rw [hs] at q;have hρ:=ziF hs;refine ⟨B,w,ρ,S,rfl,R,?_⟩
   cases hev:fe ρ S with
   | bad=>rwa [hev] at q
   | exc c S1=>rw [hev] at q;exact fun w' R' F'=>q σ w' R' F'
   | ok d S1 =>
    rw [hev] at q;intro v w1 R1 F1 sv;obtain ⟨ad,a',e1,_,_⟩:=R1.dco hρ;refine ⟨_,e1,B,w1,ρ,S1,rfl,R1,?_⟩;dsimp only at q
    cases hkv:fk ρ S1 with
    | bad=>rwa [hkv] at q
    | exc c S2=>rw [hkv] at q;exact fun w' R' F'=>q σ w' R' (F1.trans F')
    | ok k S2 =>
     rw [hkv] at q;intro y w2 R2 F2 sy;dsimp only at q
     cases hk':asO k with
     | none=>rw [hk'] at q;exact q.elim
     | some j =>
      rw [hk'] at q
      cases d with
      | int n =>
       dsimp only at q;split at q
       ·rename_i hsm;have ey:=zmd sy hk';subst ey;cases sv;obtain ⟨ad',a2,e1',ho,h2'⟩:=R2.dco hρ;rw [e1] at e1';cases e1';refine ⟨ad,a2,j,n,ps,rfl,rfl,rfl,by rw [sm.pp,sm.ww];exact h2',yak (yaq hsm) (by decide),?_⟩;rw [sm.pp,sm.ww];exact q σ _ (R2.mut (d0:=.non) e1 (ho rfl) (.dicX (ds:=odD (zoc ps j n)) .od)) ((F1.trans F2).trans (zc6 (by rw [ho rfl];exact yaE _)))
       ·exact q.elim
      | _=>exact q.elim
end
noncomputable def zhj(i j:Nat)(ρ:Env):Option (List D×List D):=match ρ[i]?,ρ[j]? with
 | some (some (true,.lst l)),some (some (true,.lst m))=>if i=j then none else some (l,m)
 | _,_=>none
def zlr(h:zhj i j ρ=some p):ρ[i]?=some (some (true,.lst p.1))/\ρ[j]?=some (some (true,.lst p.2))/\i≠j:=by
 unfold zhj at h;split at h
 ·rename_i e1 e2;split at h
  ·cases h
  ·rename_i hn;cases h;exact ⟨e1,e2,hn⟩
 ·cases h
def zdG(i j:Nat)(f:Fe):Fs:=fun ρ S=>match zhj i j ρ with
 | some p=>(match f ρ S with
  | .ok d S1=>(match d with
   | .int q=>(match (if 0<=q/\zaH p.1.length=true/\zaH p.2.length=true then p.2[q.toNat]? else none) with
    | some y=>.nx ((ρ.set j (some (true,.lst (p.2.eraseIdx q.toNat)))).set i (some (true,.lst (p.1++[y])))) S1
    | none=>.bad)
   | _=>.bad)
  | .exc c S1=>.ex c ρ S1 | .bad=>.bad)
 | none=>.bad
section
variable{X:Cx}{cl:Cf}{E:St->XK}{own:Bool}{e:Expr}{f:Fe}{pos px py:Pos}{i j:Nat}{x y:Str}{ap cp ap2 cp2:Pos}{w:Wd}
theorem zfC:∀{vs:List V} {ds:List D} (k:Nat),Shds cl w vs ds->Shds cl w (vs.eraseIdx k) (ds.eraseIdx k)
 | _,_,k,.nil=>by cases k<;>exact .nil
 | _,_,0,.cons _ t=>t
 | _,_,k+1,.cons h t=>.cons h (zfC k t)
theorem zo9(hN:X.N[i]?=some x)(hv:Vis X.env.scope x)(hd:(x == ("__debug__":Str))=false)(hcd:(x == ("__classdict__":Str))=false)(hN2:X.N[j]?=some y)(hv2:Vis X.env.scope y)(hd2:(y == ("__debug__":Str))=false)(hcd2:(y == ("__classdict__":Str))=false)(he:PE X e (tE cl E f))
  (hpl:zbq e=true) (hln:(ap.endLine == cp.line)=true) (hln2:(ap2.endLine == cp2.line)=true):PS X (.Expr (.Call (.Attribute (.Name x px) "append" ap) [.Call (.Attribute (.Name y py) "pop" ap2) [e] [] cp2] [] cp) pos) (tS cl E own (zdG i j f)):=by
 have hin:=zk2 (es:=[]) (apos:=ap2) (cpos:=cp2) ybs PySem.F.slot_list_pop PySem.F.type_list_pop zm9 (zcl (pos:=py) hN2 hv2 hd2 hcd2) (za7 he zcF (zaN hpl)) (hfew:=zfi (by simp [hpl]) (by simp)) (hline:=hln2) (hs:=zaN hpl) (hplain:=rfl);refine PS.imp (zf9 (zk2 (es:=[]) ybs PySem.F.slot_list_append PySem.F.type_list_append zhh (zcl hN hv hd hcd) (za7 hin zcF rfl) (hfew:=zfi rfl (by simp)) (hline:=hln) (hs:=rfl) (hplain:=rfl)) rfl) ?_;rintro De σ H ⟨B,w,ρ,S,rfl,R,q⟩;unfold zdG at q
 cases hl2:zhj i j ρ with
 | none=>rw [hl2] at q;exact q.elim
 | some p =>
  obtain ⟨l,m⟩:=p;rw [hl2] at q;obtain ⟨hi,hj,hij⟩:=zlr hl2;dsimp only at hi hj q;obtain ⟨a,xs,e1,h1,h2,t⟩:=R.list hi;obtain ⟨b,ys,e2,g1,g2,t2⟩:=R.list hj;refine ⟨_,e1,.inl ⟨rfl,_,SqL.of h2⟩,_,e2,.inl ⟨rfl,_,SqL.of g2⟩,B,w,ρ,S,rfl,R,?_⟩
  cases hf:f ρ S with
  | bad=>rwa [hf] at q
  | exc c S1=>rw [hf] at q;exact fun w' R' F'=>q σ w' R' F'
  | ok d S1 =>
   rw [hf] at q;intro v w' R' F' h'
   cases d with
   | int k =>
    cases h';dsimp only at q
    cases hy:(if 0<=k/\zaH l.length=true/\zaH m.length=true then m[k.toNat]? else none) with
    | none=>rw [hy] at q;exact q.elim
    | some d =>
     rw [hy] at q;dsimp only at q;split at hy
     ·rename_i hb;obtain ⟨b',ys',e2',g1',g2',t2'⟩:=R'.list hj;rw [e2] at e2';cases e2';have hlt:k.toNat<m.length:=(yai.mp hy).1;have hlen:=t2'.length;have hys:ys'[k.toNat]?=some (ys'[k.toNat]'(by omega)):=yab (by omega);obtain ⟨d',ed,sd⟩:=t2'.get hys;rw [hy] at ed;cases ed;have hm:=zaT hb.2.2;refine ⟨b,ys',k,k.toNat,_,rfl,rfl,g2',by omega,by have:m.length<=100000:=yaq hb.2.2;omega,?_,hys,?_⟩
      ·unfold seqIndex?;rw [if_neg (show ¬ k<0 by omega)];dsimp only;rw [show (decide (0<=k)&&decide (k<((ys'.length:Nat):Int)))=true by rw [yac,yaZ,yaZ];omega];rfl
      have ff:Fut w' (w'.mut b (.lst (ys'.eraseIdx k.toNat))):=zc6 (by rw [g1'];exact yaE _);have R2:=R'.mut (d0:=.non) e2 g1' (.lst (zfC k.toNat t2'))
      have hi2:(ρ.set j (some (true,D.lst (m.eraseIdx k.toNat))))[i]?=some (some (true,.lst l)):=by rw [yaT (fun z=>hij z.symm)];exact hi
      obtain ⟨a2,xs2,e12,h12,h22,t12⟩:=R2.list hi2;rw [e1] at e12;cases e12;refine ⟨a,xs2,_,rfl,rfl,h22,by rw [t12.length];exact ziE hb.2.1,?_⟩;exact q σ _ (R2.mut (d0:=.non) e1 h12 (.lst (t12.append (.cons (sd.up ff) .nil)))) (F'.trans (ff.trans (zc6 (by rw [h12];exact yaE _))))
     ·cases hy
   | _=>exact q.elim
end
noncomputable def zjF(h i j:Nat)(f1 f2:Fe):Fs:=fun ρ S=>match f1 ρ S with
 | .ok d1 S1=>(match f2 ρ S1 with
  | .ok d2 S2=>.nx (((ρ.set h (some (false,d1))).set i (some (true,d2))).set j (some (true,.lst []))) S2
  | .exc c S'=>.ex c ρ S' | .bad=>.bad)
 | .exc c S'=>.ex c ρ S' | .bad=>.bad
noncomputable def zvB(nm:List (Str×NameKind))(ts:List Expr):Bool:=ts.any fun | .Name x _=>!decide (nm.lookup x=some .local) | _=>false
theorem zs9{α β:Type}(f:α->Option β):∀(l:List α),(∃a∈l,f a=none)->(l.filterMap f).length<l.length
 | [],h=>by obtain ⟨_,h,_⟩:=h;cases h
 | a::l,h=>by
  rw [yan,ybQ];have hle:=List.length_filterMap_le f l
  cases ha:f a with
  | none=>exact Nat.lt_succ_of_le hle
  | some b =>
   show (l.filterMap f).length+1<_;obtain ⟨c,hc,e⟩:=h
   rcases yau.mp hc with rfl | hc
   ·rw [ha] at e;cases e
   ·have:=zs9 f l ⟨c,hc,e⟩;omega
section
variable{X:Cx}{cl:Cf}{E:St->XK}{own:Bool}{nm:List (Str×NameKind)}
def zl0(hs:X.env.scope.names=nm)(h:zvB nm ts=true):swappedStores [.Tuple ts k p] (.Tuple vs k2 p2) X.env=pure none:=by
 unfold swappedStores;dsimp only;split
 ·rfl
 ·split
  ·rfl
  ·split
   ·rfl
   ·rename_i hn;exfalso;apply hn;rw [ycQ];left;rw [bne_iff_ne];apply yax;apply zs9;unfold zvB at h;rw [List.any_eq_true] at h;obtain ⟨x,hx,hb⟩:=h;refine ⟨x,hx,?_⟩
    cases x with
    | Name y q =>
     have hb':¬ nm.lookup y=some .local:=by simpa using hb
     have:¬ X.env.kindOf y=some .local:=by unfold Env.kindOf;rw [hs];exact hb'
     simp [this]
    | _=>cases hb
def zoX:swapsWithSole [.Tuple es kk p] e l env=pure false:=by cases e<;>rfl
variable{i j h:Nat}{x y z:Str}{a e:Expr}{f f1:Fe}{px py pz pt pt2 p2 pos:Pos}{kt k2:Nat}
def zuP(hc:X.calm=true)(hN:X.N.Nodup)(hh:X.N[h]?=some z)(hi:X.N[i]?=some x)(hj:X.N[j]?=some y)(hz:L2.Loc X.env.scope z)(hx:L2.Loc X.env.scope x)(hy:L2.Loc X.env.scope y)(hfz:X.fn z=true\/X.env.scope.names.lookup z=some .local)(hfx:X.fn x=true\/X.env.scope.names.lookup x=some .local)(hfy:X.fn y=true\/X.env.scope.names.lookup y=some .local)(ha:PE X a (tE cl E f1))(hpa:zbq a=true)(he:PE X e (tN cl E f))(hpl:zbq e=true)(hw:swappedStores [.Tuple [.Name z pz,.Name x px,.Name y py] kt pt] (.Tuple [a,e,.List [] p2] k2 pt2) X.env=pure none) :
  PS X (.Assign [.Tuple [.Name z pz,.Name x px,.Name y py] kt pt] (.Tuple [a,e,.List [] p2] k2 pt2) pos) (tS cl E own (zjF h i j f1 f)):=by
 refine PS.imp (ziM (zoi (za7 ha (za7 he (za7 (zoj zcF) zcF (zaN rfl)) (zaN hpl)) (zaN hpa))) (zog hc (zeG (ze2 hN hh hz hfz) (zeG (ze2 hN hi hx hfx) (zeG (ze2 hN hj hy hfy) zkY)))) zoX hw rfl) ?_;rintro De σ H ⟨B,w,ρ,S,rfl,R,q⟩;unfold zjF at q;refine ⟨B,w,ρ,S,rfl,R,?_⟩
 cases hg:f1 ρ S with
 | bad=>rwa [hg] at q
 | exc c S1=>rw [hg] at q;exact fun w' R' F'=>q σ w' R' F'
 | ok d0 S0 =>
 rw [hg] at q;dsimp only at q;intro v0 w0 Ra Fa sh;refine ⟨B,w0,ρ,S0,rfl,Ra,?_⟩
 cases hf:f ρ S0 with
 | bad=>rwa [hf] at q
 | exc c S1=>rw [hf] at q;exact fun w' R' F'=>q σ w' R' (Fa.trans F')
 | ok d S1 =>
  rw [hf] at q;intro q1 o w1 R0 F0 h1 t1;refine ⟨by show (0:Nat)<=sizeLine;decide,fun q2 h2=>?_⟩;refine ⟨by show (3:Nat)<=sizeLine;decide,fun q3 h3=>?_⟩;have R1:=(R0.put (i:=h) (sh.up F0)).own (i:=i) (d:=d) h1 t1;have F1:=zbx (w:=w1) (p:=q1) (o:=o) (r:=.slot i) h1;have R2:=R1.own (i:=j) (d:=.lst []) (p:=q2) (o:=.lst []) h2 (.lst .nil);have F2:=zbx (w:=w1.addAs q1 o (.slot i)) (p:=q2) (o:=.lst []) (r:=.slot j) h2;have gr:=zau (w:=(w1.addAs q1 o (.slot i)).addAs q2 (.lst []) (.slot j)) (p:=q3) h3 (.tup [v0,V.ref q1,V.ref q2]);exact ⟨q3,[v0,.ref q1,.ref q2],rfl,.inl (.inl zay),rfl,v0,[.ref q1,.ref q2],rfl,.ref q1,[.ref q2],rfl,.ref q2,[],rfl,rfl,q _ _ (R2.grow gr) (Fa.trans (F0.trans ((F1.trans F2).trans gr.fut)))⟩
end
end S2
namespace L2
open PySem PySem.Spec PyProof.Rows SeqAt
theorem zfV(l:Addr)(items:Array Value)(n:Nat)(dd:Option Addr)(sl:Array (Option Value))(x:Value)(e:Value->Bool)(j:Nat)(hj:j<items.size)(hit:e items[j]=true)(hno:∀m (hm:m<items.size),m<j->e items[m]=false) :
  Meets (Builtin.«tuple.index» ⟨[.ref l,x],[]⟩)
   (fun A R s=>s.heap.get? l=some { cls:=.type "tuple",dict:=dd,data:=.seq items n,slots:=sl }/\(∀y,y∈items->EqAt A.in1 s y x (e y))/\R (.ok (.ret (.int j s.toks))) { s with toks:=s.toks+1 }) :=
 .of_wp fun prog w A R s h=>by
  obtain ⟨hp,g,d,tk,os⟩:=s;obtain ⟨hl,he,h⟩:=h;unfold Builtin.«tuple.index»;simp only [Std.Legacy.Range.forIn_eq_forIn_range',Std.Legacy.Range.size,Nat.sub_zero,Nat.add_sub_cancel,Nat.div_one]
  wp_walk using wpAny_loadPart' hl,ycA _ (fun zbW b s'=>b.1=none/\s'=⟨hp,g,d,tk,os⟩/\∃i,i<=j/\zbW=List.range' i (items.size-i)) _
  case turn =>
   rintro y zbW b s' ⟨hb,rfl,i,hi,hr⟩
   have e0:items.size-i=(items.size-(i+1))+1:=by omega
   rw [e0,List.range'_succ] at hr
   injection hr with h1 h2
   subst h1
   have hlt:y<items.size:=by omega
   rw [ybe hlt];refine yaa (he _ (Array.getElem_mem hlt) prog w _ _ ?_)
   by_cases hyj:y=j
   ·subst hyj;rw [hit]
    wp_walk
    exact ⟨_,rfl,h⟩
   ·rw [hno y hlt (by omega)]
    wp_walk
    exact ⟨rfl,rfl,y+1,by omega,h2⟩
  case fin =>
   rintro ⟨b1,b2⟩ s' ⟨hb',rfl,i,hz,hR⟩;exfalso
   have e0:items.size-i=(items.size-(i+1))+1:=by omega
   rw [e0,List.range'_succ] at hR;cases hR
  case h =>
   exact ⟨rfl,rfl,0,yba _,by simp⟩
section
variable{X:Cx}{pins:Z3}{σ:St}{H:Hp}{s:Shared}{l:Addr}{xs:List V}
def Inv.tupM(I:Inv X pins σ H s)(hH:H l=some (.tup xs)):∃(its:List Value) (n:Nat) (sl:Array (Option Value)),Vals xs its/\s.heap.get? l=some { cls:=.type "tuple",dict:=none,data:=.seq its.toArray n,slots:=sl }:=by
 obtain ⟨_,its,r,o,h1,h2,n,h3,h4⟩:=(show zbL X.prog X.w H s.heap l (.tup xs) from I.hok l _ hH);obtain ⟨c,d,da,sl⟩:=o;cases h2;cases h3;cases h4;exact ⟨its,n,sl,r,h1⟩
noncomputable def zyH(r:V->List V->Hp->VK->Prop)(to:TE)(t:TA):TE:=fun σ H Q=>to σ H fun x H1=>(∃a xs,x=.ref a/\H1 a=some (.tup xs))/\t σ H1 fun xs H2=>r x xs H2 Q
variable{o e:Expr}{es:List Expr}{to:TE}{t:TA}{name:Str}{apos cpos:Pos}{id:String}{r:V->List V->Hp->VK->Prop}
def zsg(slot:Slot "tuple" name id)(hty:typeOf (.builtin id)=pure (.type "method_descriptor"))(hm:MtM X id r)(ho:PE X o to)(ha:PA X (e::es) t)
  (hbase:attributeBase o name X.env (eval o X.env)=eval o X.env:=by rfl)
  (hfew:((backTo cpos (starEach (e::es) X.env)).all (fun x=>!x.1)&&(backToKw cpos (keywordEach [] X.env)).all (fun x=>x.1.isSome)
   && decide ((e::es).length+([]:List Keyword).length+(if ([]:List Keyword).isEmpty then 0 else 1)<30))=true:=by rfl)
  (hline:(apos.endLine == cpos.line)=true:=by rfl) (hs:starEach (e::es) X.env=(false,eval e X.env)::starEach es X.env:=by rfl) (hplain:(backTo cpos (starEach es X.env)).any (·.1)=false:=by rfl) :
  PE X (.Call (.Attribute o name apos) (e::es) [] cpos) (zyH r to t):=by
 intro pins s σ H Q I h;refine wpAny_Call_method_late hbase hfew hline rfl (thn (ho pins s σ H _ I h) fun v s1 ⟨x,H1,I1,r1,ty,q1⟩=>?_);obtain ⟨a,ys,rfl,hH⟩:=ty;obtain ⟨its,n,sl,_,hg⟩:=I1.tupM hH;cases (show v=Value.ref a from r1);refine ⟨"tuple",id,PySem.F.plainAttrs_tuple,slot,hty,⟨_,hg,rfl⟩,fun b z=>by cases z;exact ⟨_,hg,rfl⟩,?_⟩;have hA:=ha cpos pins s1 σ H1 _ I1 q1;rw [hs] at hA ⊢;refine yco (by show (false||(backTo cpos (starEach es X.env)).any (·.1))=false;rw [hplain]<;>rfl) (yb4 ?_);exact thn hA fun us s2 ⟨vs,H2,I2,r2,q2⟩=>hm pins s2 σ H2 (.ref a) vs (.ref a) us Q I2 (show zbr (.ref a) (.ref a) from rfl) r2 q2
end
end L2
namespace S2
open PySem PySem.Spec PyProof.Rows L2
section
variable{X:Cx}{cl:Cf}{E:St->XK}{e:Expr}{f:Fe}{pos':Pos}
noncomputable def MtT(X:Cx)(cl:Cf)(id:String)(g:List D->D->Option D):Prop:=MtM X id fun x vs H Q=>∃(a:Addr) (xs:List V) (l:List D) (w:Wd) (d:D) (v:V) (r:Int),w.H=H/\x=.ref a/\vs=[v]/\w.H a=some (.tup xs)/\Shds cl w xs l/\TopV cl w v d/\g l d=some (.int r)/\Q (.int r) H
theorem zll(hK:X.K=cl.K)(hu:X.A.units+64<cLine):MtT X cl "tuple.index" zdC:=by
 intro pins s σ H x vs v us Q I rx rv h;obtain ⟨a,xs,l,w,d,v',r,rfl,rfl,rfl,hH,sh,tv,hg,q⟩:=h;unfold zdC at hg;split at hg
 ·rename_i hf;cases hg;simp only [yac,yaZ] at hf;obtain ⟨⟨⟨f1,f2⟩,f3⟩,f4⟩:=hf;cases rx;obtain ⟨u,rfl,ru⟩:=rv.one;obtain ⟨bs,rb⟩:=zg6 I hK tv f1 ru;obtain ⟨its,n,sl,r,e⟩:=I.tupM hH;obtain ⟨as,ra⟩:=zdz I hK sh f2 r;have hlen:=zfG ra
  have hlt:l.findIdx (zer · d)<l.length:=by
   rw [List.findIdx_lt_length];unfold zi5 at f4;rwa [List.any_eq_true] at f4
  refine ycc F.slot_tuple_index ⟨_,e,rfl⟩ F.entry_tuple_index (F.args_tuple_index_2 _ _) (zfV a _ n none sl u (fun y=>(SeqAt.readOf s.heap y).eqv d.py) (l.findIdx (zer · d)) (by rw [yah];omega) ?_ ?_) ⟨e,fun y hy=>zb3 hu rb f1 ra f2 y hy,?_⟩
  ·obtain ⟨e',h1,h2⟩:=zed (d:=d) ra f2 (l.findIdx (zer · d)) (by omega);simp only [List.getElem_toArray];rw [h2];rw [yab hlt] at h1;cases h1;exact List.findIdx_getElem (w:=hlt)
  ·intro m hm hmj
   have lm:m<its.length:=by rwa [yah] at hm
   obtain ⟨e',h1,h2⟩:=zed (d:=d) ra f2 m lm;simp only [List.getElem_toArray];rw [h2];rw [yab (by omega)] at h1;cases h1;exact List.not_of_lt_findIdx hmj
  ·exact ⟨.int _,w.H,I.tok _,⟨_,rfl⟩,q⟩
 ·cases hg
def zlO(i:Nat)(f:Fe):Fe:=fun ρ S=>match ρ[i]? with | some (some (false,.tup l))=>(f ρ S).bind fun d S1=>Out.of (zdC l d) S1 | _=>.bad
def zqj:∀(l:List D) (d r:D),zdC l d=some r->∃n,r=.int n:=by
 intro l d r h;unfold zdC at h;split at h
 ·cases h;exact ⟨_,rfl⟩
 ·cases h
def Rel.tupAny{B:Base}{σ:St}{w:Wd}{ρ:Env}{S:Sto}{i:Nat}{l:List D}(R:Rel cl B σ w ρ S)(h:ρ[i]?=some (some (false,.tup l))):∃a xs,σ[i]?=some (some (.ref a))/\w.H a=some (.tup xs)/\Shds cl w xs l:=by
 obtain ⟨v,e1,sh⟩:=R.slots i false _ h
 cases sh with
 | tup ep k r=>exact ⟨_,_,e1,ep,r⟩
def zpj(hK:X.K=cl.K)(hu:X.A.units+64<cLine)
  (hN:X.N[i]?=some x) (hv:Vis X.env.scope x) (hd:(x == ("__debug__":Str))=false) (hcd:(x == ("__classdict__":Str))=false) (he:PE X e (tH cl E f)) (hpl:zbq e=true) (hln:(ap.endLine == cp.line)=true) :
  PE X (.Call (.Attribute (.Name x pos') "index" ap) [e] [] cp) (tE cl E (zlO i f)):=by
 refine PE.imp (zsg (es:=[]) PySem.F.slot_tuple_index PySem.F.type_tuple_index (zll hK hu) (zcl hN hv hd hcd) (zhY he zkD (zaN hpl)) (hfew:=zfi (by simp [hpl]) (by simp)) (hline:=hln) (hs:=zaN hpl) (hplain:=rfl)) ?_;rintro σ H Q ⟨B,w,ρ,S,rfl,R,q⟩
 have key:(∃l,ρ[i]?=some (some (false,.tup l)))\/zlO i f ρ S=.bad:=by
  unfold zlO;split
  ·rename_i l hl;exact .inl ⟨l,hl⟩
  ·exact .inr rfl
 rcases key with ⟨l,hl⟩ | hb
 ·have e':zlO i f ρ S=(f ρ S).bind fun d S1=>Out.of (zdC l d) S1:=by unfold zlO;rw [hl]
  rw [e'] at q;obtain ⟨a,xs,e1,h2,t⟩:=R.tupAny hl;refine ⟨_,e1,⟨_,_,rfl,h2⟩,B,w,ρ,S,rfl,R,?_⟩
  cases hf:f ρ S with
  | bad=>rw [hf] at q;exact q.elim
  | exc c S1 =>
   rw [hf] at q;simp only [zal,hf,Out.bind];exact q
  | ok d S1 =>
   rw [hf] at q;simp only [zal,hf,Out.bind];intro vs w' R' F' sh;dsimp only [Out.bind] at q
   cases hg:zdC l d with
   | none=>rw [hg] at q;exact q.elim
   | some r =>
    rw [hg] at q;obtain ⟨n,rfl⟩:=zqj l d r hg;obtain ⟨a',xs',e1',h2',t'⟩:=R'.tupAny hl;rw [e1] at e1';cases e1'
    cases sh with
    | cons h1 hn =>
     cases hn;exact ⟨a,xs',l,w',d,_,n,rfl,rfl,rfl,h2',t',h1.top R',hg,q _ w' R' F' (.int _)⟩
 ·rw [hb] at q;exact q.elim
end
end S2
namespace ST
open PySem PySem.Spec PyProof.Rows
noncomputable def zjY:List Int:=[0,1,2,3,4,5,6,7]
def zag(ks:List Int):List Int:=zjY.filter fun x=>decide (x∈ks)
theorem zli:k∈zjY↔0<=k/\k<8:=by
 unfold zjY;simp only [yau,ya4,ycu];omega
def za1:k∈zag ks↔(0<=k/\k<8)/\k∈ks:=by
 unfold zag;rw [ybM,zli,decide_eq_true_iff]
def zbg:(zag ks).Pairwise (· < ·):=List.Pairwise.filter _ (by unfold zjY;decide)
def zaF:(zag ks).length<=8:=by
 have:=ya1 (fun x=>decide (x∈ks)) zjY;exact this
theorem zeR{l:List Int}(h:l.Pairwise (· < ·)):l.Nodup:=List.Pairwise.imp (fun {a b} h=>by omega) h
theorem zky{a b:List Int}(ha:a.Pairwise (· < ·))(hb:b.Pairwise (· < ·))(h:∀x,x∈a↔x∈b):a=b:=by
 have p:a.Perm b:=(List.perm_ext_iff_of_nodup (zeR ha) (zeR hb)).mpr h;exact PySem.W.lks_uniq p (List.Pairwise.imp (fun {a b} h=>by omega) ha) (List.Pairwise.imp (fun {a b} h=>by omega) hb)
def znP(h:k∈ks):zag (ks++[k])=zag ks:=by
 refine zky zbg zbg fun x=>?_
 rw [za1,za1,ya3,yaF];constructor
 ·rintro ⟨a,b | rfl⟩
  ·exact ⟨a,b⟩
  ·exact ⟨a,h⟩
 ·rintro ⟨a,b⟩;exact ⟨a,.inl b⟩
theorem ziy{a b:Int}(ha:0<=a)(hb:0<=b):a.toNat<b.toNat↔a<b:=by omega
def zc0{l:List Int}(h:l.Pairwise (· < ·))(h0:∀x∈l,0<=x):(l.map Int.toNat).Pairwise (· < ·):=by
 rw [yc5];exact List.Pairwise.imp_of_mem (fun {a b} ha hb hab=>(ziy (h0 a ha) (h0 b hb)).mpr hab) h
def zdf:∀x∈zag ks,0<=x:=fun x hx=>(za1.mp hx).1.1
theorem zhC(hk:0<=k/\k<8)(hn:k ∉ ks)(hc:Cut ((zag ks).map Int.toNat) k.toNat c):zag (ks++[k])=(zag ks).take c++k::(zag ks).drop c:=by
 have hnc:k ∉ zag ks:=fun z=>hn (za1.mp z).2
 have hs:((zag ks).take c++k::(zag ks).drop c).Pairwise (· < ·):=by
  have h1:=zpa (zc0 zbg zdf) hc (j:=k.toNat) (fun z=>by
   obtain ⟨x,hx,e⟩:=yat.mp z;have:=zdf x hx
   exact hnc (by rw [show k=x by omega];exact hx))
  rw [<-List.map_take,<-yc7,<-yav,<-ybC,yc5] at h1;refine List.Pairwise.imp_of_mem (fun {a b} ha hb hab=>?_) h1
  have pos:∀x∈(zag ks).take c++k::(zag ks).drop c,0<=x:=fun x hx=>by
   rcases ya3.mp hx with h | h
   ·exact zdf x (List.mem_of_mem_take h)
   ·rcases yau.mp h with rfl | h
    ·exact hk.1
    ·exact zdf x (List.mem_of_mem_drop h)
  exact (ziy (pos a ha) (pos b hb)).mp hab
 refine zky zbg hs fun x=>?_
 rw [zp0,za1,za1,ya3,yaF];constructor
 ·rintro ⟨a,b | rfl⟩
  ·exact .inr ⟨a,b⟩
  ·exact .inl rfl
 ·rintro (rfl | ⟨a,b⟩)
  ·exact ⟨hk,.inr rfl⟩
  ·exact ⟨a,.inl b⟩
theorem zfK(prog:Program)(w:World)(h:0<=k/\k<8):(intKind prog w).hash k=k:=by
 have:k=0\/k=1\/k=2\/k=3\/k=4\/k=5\/k=6\/k=7:=by omega
 rcases this with rfl | rfl | rfl | rfl | rfl | rfl | rfl | rfl<;>rfl
theorem zj7(h:0<=k/\k<8):SetTable.bits k=k.toNat:=by
 unfold SetTable.bits;rw [Int.emod_eq_of_lt h.1 (by omega)]
structure Els(l:List Int)(es:List (Int×Value)):Prop where
 len:es.length=l.length
 at':∀(i:Nat) (k:Int),l[i]?=some k->∃tk,es[i]?=some (k,Value.int k tk)
def Els.mem(h:Els l es)(he:e∈es):∃k tk,k∈l/\e=(k,Value.int k tk):=by
 obtain ⟨i,hi,rfl⟩:=ycF.mp he
 have hl:i<l.length:=by rw [<-h.len];exact hi
 obtain ⟨tk,e⟩:=h.at' i _ (yab hl);rw [yab hi] at e;exact ⟨_,tk,yaQ hl,Option.some.inj e⟩
def Els.has(h:Els l es)(hk:k∈l):∃tk,(k,Value.int k tk)∈es:=by
 obtain ⟨i,hi,rfl⟩:=ycF.mp hk;obtain ⟨tk,e⟩:=h.at' i _ (yab hi);exact ⟨tk,ybb e⟩
theorem Els.ins{l:List Int}{es:List (Int×Value)}(h:Els l es)(c:Nat)(hc:c<=l.length)(k:Int)(tk:Tok):Els (l.take c++k::l.drop c) (es.take c++(k,Value.int k tk)::es.drop c) where
 len:=by simp only [yam,yan,yaC,ybf,h.len]
 at':=fun i x e=>by
  have hl:=h.len
  rcases Nat.lt_trichotomy i c with a | a | a
  ·rw [yay (by rw [yaC];omega),ycf,if_pos a] at e;obtain ⟨t,z⟩:=h.at' i x e;exact ⟨t,by rw [yay (by rw [yaC];omega),ycf,if_pos a];exact z⟩
  ·subst a;rw [yas (by rw [yaC];omega),yaC,yck hc,ybw] at e;cases e;exact ⟨tk,by rw [yas (by rw [yaC];omega),yaC,yck (by omega),ybw];rfl⟩
  ·rw [yas (by rw [yaC];omega),yaC,yck hc,show i-c=(i-c-1)+1 by omega,ycj,ybj] at e;obtain ⟨t,z⟩:=h.at' _ x e;exact ⟨t,by rw [yas (by rw [yaC];omega),yaC,yck (by omega),show i-c=(i-c-1)+1 by omega,ycj,ybj];exact z⟩
def Els.hashes(h:Els l es):es.map (·.1)=l:=by
 apply ybz;intro i;rw [yal]
 cases e:l[i]? with
 | none =>
  have:es[i]?=none:=by rw [List.getElem?_eq_none_iff] at e ⊢;rw [h.len];exact e
  rw [this];rfl
 | some k =>
  obtain ⟨tk,z⟩:=h.at' i k e;rw [z];rfl
noncomputable def byT(w:World):Bool:=w.params.followText "set-order"
structure ISet(w:World)(h:Heap)(a:Addr)(ks:List Int):Prop where
 ex:∃o es ep t,h.get? a=some o/\o.ExactSet/\o.data=.set es ep t/\t.place.toList=(zag ks).map Int.toNat/\t.dummies=#[]/\t.plain=true/\t.led=!byT w/\(t.mask=31\/(t.mask=7/\(zag ks).length<=4))/\Els (zag ks) es.toList
section
variable{prog:Program}{w:World}{A:Around}{E:Z5}{s:Shared}
def zc4{es:Array (Int×Value)}{t:SetTable}{l:List Int}(hl:l.length<=8)(h1:t.place.toList=l.map Int.toNat)(h2:t.dummies=#[])(h3:t.mask=31\/(t.mask=7/\l.length<=7))(h4:Els l es.toList):t.fits es.size=true:=by
 have e1:t.place.size=l.length:=by rw [<-yaD,h1,yad]
 have e2:es.size=l.length:=by rw [<-yaD,h4.len]
 unfold SetTable.fits SetTable.fill;rw [e1,e2,h2];have:(#[]:Array Nat).size=0:=rfl;rw [this];simp only [yb8,Bool.true_and,yaZ]
 rcases h3 with z | ⟨z,y⟩<;>rw [z]<;>omega
def znE{es:Array (Int×Value)}(hs:∀x∈l,0<=x/\x<8)(h:Els l es.toList):ElemsOf (intKind prog w) es.toList:=fun e he=>by
 obtain ⟨k,tk,hk,rfl⟩:=h.mem he;exact ⟨⟨k,intKind_is _ _ _ _,(zfK prog w (hs k hk)).symm⟩,rfl⟩
theorem zlJ{t:SetTable}{l:List Int}{k:Int}(hl:l.Pairwise (· < ·))(h0:∀x∈l,0<=x)(hk:0<=k/\k<8)(hn:k ∉ l)(h1:t.place.toList=l.map Int.toNat)(h2:t.dummies=#[])(h3:7<=t.mask):t.freeSlot k=some (k.toNat,false):=by
 have hj:SetTable.bits k % (t.mask+1)=k.toNat:=by
  rw [zj7 hk];exact Nat.mod_eq_of_lt (by omega)
 have hnp:k.toNat ∉ t.place.toList:=by
  rw [h1];intro z;obtain ⟨x,hx,e⟩:=yat.mp z;have:=h0 x hx;exact hn (by rw [show k=x by omega];exact hx)
 have es:=zkz (t:=t) (by rw [h1];exact zc0 hl h0) h2 hnp;unfold SetTable.freeSlot SetTable.probe
 have e0:10*SetTable.turns t.mask=(10*SetTable.turns t.mask-1)+1:=by unfold SetTable.turns;omega
 rw [e0];unfold SetTable.probe.go;have ep:(t.probeStart k).j=k.toNat:=hj;have ed:(t.probeStart k).dummy=none:=rfl;rw [ep,es,ed];rfl
theorem zp2(hk:0<=k/\k<8)(hn:k ∉ ks)(h1:t.place.toList=(zag ks).map Int.toNat)(h2:t.dummies=#[])(h3:t.mask=31\/(t.mask=7/\(zag ks).length<=4))(h4:Els (zag ks) es.toList) :
  ∃es1 t1,layNew t es k (.int k tk)=(es1,t1,false,false)/\t1.place.toList=(zag (ks++[k])).map Int.toNat/\t1.dummies=#[]/\t1.plain=t.plain/\t1.led=t.led/\t1.mask=t.mask/\t1.finger=t.finger/\Els (zag (ks++[k])) es1.toList:=by
 have hnc:k ∉ zag ks:=fun z=>hn (za1.mp z).2
 have hm:7<=t.mask:=by rcases h3 with z | ⟨z,_⟩<;>rw [z]<;>decide
 have fs:=zlJ zbg zdf hk hnc h1 h2 hm;obtain ⟨c,hc⟩:=zjl t.place.toList k.toNat (by rw [h1];exact zc0 zbg zdf);have eb:SetTable.below t.place k.toNat=c:=zfq hc;rw [h1] at hc
 have hcl:c<=(zag ks).length:=by have:=hc.1;rwa [yad] at this
 have en:=zhC hk hn hc;refine ⟨SetTable.insertAt es c (k,.int k tk),{ t with place:=SetTable.insertAt t.place c k.toNat },?_,?_,h2,rfl,rfl,rfl,rfl,?_⟩
 ·have fit:({ t with place:=SetTable.insertAt t.place c k.toNat }:SetTable).fits (SetTable.insertAt es c (k,.int k tk)).size=true:=by
   refine zc4 (l:=zag (ks++[k])) zaF ?_ h2 ?_ ?_
   ·show (SetTable.insertAt t.place c k.toNat).toList=_;rw [zdr,h1,en,<-List.map_take,<-yc7,ybC,yav]
   ·have hl:(zag (ks++[k])).length=(zag ks).length+1:=by
     rw [en];simp only [yam,yan,yaC,ybf];omega
    rcases h3 with z | ⟨z,y⟩
    ·exact .inl z
    ·exact .inr ⟨z,by omega⟩
   ·rw [zdr,en];exact h4.ins c hcl k tk
  unfold layNew;rw [fs];dsimp only;rw [zr0 h2];dsimp only;rw [eb];unfold SetTable.orStandIn;rw [fit];rfl
 ·show (SetTable.insertAt t.place c k.toNat).toList=_;rw [zdr,h1,en,<-List.map_take,<-yc7,ybC,yav]
 ·rw [zdr,en];exact h4.ins c hcl k tk
noncomputable def zlq(hs:Array Int):Option (List (Nat×Nat)):=(SetTable.layClean 31 hs).map fun owner=>(List.range 32).filterMap fun j=>(owner.getD j none).map (j,·)
noncomputable def ztJ(b0 b1 b2 b3 b4 b5 b6 b7:Bool):List Int:=(if b0 then [0] else [])++((if b1 then [1] else [])++((if b2 then [2] else [])++((if b3 then [3] else [])++((if b4 then [4] else [])++((if b5 then [5] else [])++((if b6 then [6] else [])++(if b7 then [7] else [])))))))
theorem zne:∀b0 b1 b2 b3 b4 b5 b6 b7:Bool,(ztJ b0 b1 b2 b3 b4 b5 b6 b7).length=5->zlq (ztJ b0 b1 b2 b3 b4 b5 b6 b7).toArray=some (((ztJ b0 b1 b2 b3 b4 b5 b6 b7).map Int.toNat).zip [0,1,2,3,4]):=by decide +kernel
def zl1(ks:List Int):zag ks=ztJ (decide ((0:Int)∈ks)) (decide ((1:Int)∈ks)) (decide ((2:Int)∈ks)) (decide ((3:Int)∈ks)) (decide ((4:Int)∈ks)) (decide ((5:Int)∈ks)) (decide ((6:Int)∈ks)) (decide ((7:Int)∈ks)):=by
 have fc:∀(p:Int->Bool) (x:Int) (l:List Int),List.filter p (x::l)=(if p x then [x] else [])++List.filter p l:=fun p x l=>by
  rw [List.filter_cons];cases p x<;>rfl
 unfold zag zjY;rw [fc,fc,fc,fc,fc,fc,fc,fc,List.filter_nil,yaS];rfl
def zu3(hl:(zag ks).length=5)(f mv:Nat)(led pl:Bool):SetTable.laid 31 f mv led pl (zag ks).toArray=some ({ mask:=31,place:=((zag ks).map Int.toNat).toArray,dummies:=#[],finger:=f,led:=led,moves:=mv,plain:=pl },#[0,1,2,3,4]):=by
 have e:zlq (zag ks).toArray=some (((zag ks).map Int.toNat).zip [0,1,2,3,4]):=by
  rw [zl1] at hl ⊢;exact zne _ _ _ _ _ _ _ _ hl
 unfold zlq at e;unfold SetTable.laid
 cases q:SetTable.layClean 31 (zag ks).toArray with
 | none=>rw [q] at e;cases e
 | some owner =>
  rw [q] at e;have e':(List.range 32).filterMap (fun j=>(owner.getD j none).map (j,·))=((zag ks).map Int.toNat).zip [0,1,2,3,4]:=Option.some.inj e;show some _=some _;rw [e'];have z1:(((zag ks).map Int.toNat).zip [0,1,2,3,4]).map (·.1)=(zag ks).map Int.toNat:=List.map_fst_zip (by rw [yad,hl];exact yaj _);have z2:(((zag ks).map Int.toNat).zip [0,1,2,3,4]).map (·.2)=[0,1,2,3,4]:=List.map_snd_zip (by rw [yad,hl];exact yaj _);rw [z1,z2]
def zzF{α:Type}{es:Array α}(h:es.size=5):(#[0,1,2,3,4]:Array Nat).filterMap (es[·]?)=es:=by
 obtain ⟨l⟩:=es
 match l,h with
 | [a,b,c,d,e],_=>rfl
def zrT(hl:(zag ks).length=5)(h4:Els (zag ks) es.toList):∃t2,relayAll t es (SetTable.grown es.size)=(es,t2,false)/\t2.place.toList=(zag ks).map Int.toNat/\t2.dummies=#[]/\t2.plain=t.plain/\t2.led=t.led/\t2.mask=31:=by
 have hz:es.size=5:=by rw [<-yaD,h4.len,hl]
 have hh:es.map (·.1)=(zag ks).toArray:=by
  apply Array.ext';rw [Array.toList_map,h4.hashes]
 have hm:SetTable.sizeAbove (SetTable.grown 5)-1=31:=by decide
 have er:t.relaid (es.map (·.1)) (SetTable.grown es.size)=some ({ mask:=31,place:=((zag ks).map Int.toNat).toArray,dummies:=#[],finger:=t.finger,led:=t.led,moves:=t.movedTo 31,plain:=t.plain },#[0,1,2,3,4]):=by
  unfold SetTable.relaid;rw [hz,hm,hh];exact zu3 hl _ _ _ _
 refine ⟨{ mask:=31,place:=((zag ks).map Int.toNat).toArray,dummies:=#[],finger:=t.finger,led:=t.led,moves:=t.movedTo 31,plain:=t.plain },?_,rfl,rfl,rfl,rfl,rfl⟩;unfold relayAll;rw [er];dsimp only;rw [zzF hz];have fit:=zc4 (es:=es) (t:={ mask:=31,place:=((zag ks).map Int.toNat).toArray,dummies:=#[],finger:=t.finger,led:=t.led,moves:=t.movedTo 31,plain:=t.plain }) (l:=zag ks) zaF rfl rfl (.inl rfl) h4;rw [fit,hz]
 have cv:coversAll #[0,1,2,3,4] 5=true:=by decide
 rw [cv];rfl
theorem znp{a:Addr}{ks:List Int}{k:Int}{tk:Tok}{Q:Bool->Shared->Prop}(S:ISet w s.heap a ks)(hk:0<=k/\k<8)
  (h:∀h' c,Heap.SameBut a s.heap h'->ISet w h' a (ks++[k])->Q c { s with heap:=h',toks:=s.toks+1 }):wpAny (model prog w) A (setAdd a (.int k tk)) Q E s:=by
 unfold setAdd;refine ybr (yaa ((intKind prog w).pyHash (k:=k) (intKind_is _ _ _ _) ?_));obtain ⟨o,es,ep,t,ho,hex,hd,h1,h2,h5,h6,h3,h4⟩:=S.ex;have hsm:∀x∈zag ks,0<=x/\x<8:=fun x hx=>(za1.mp hx).1
 have hf:t.fits es.size=true:=zc4 zaF h1 h2 (h3.imp id fun z=>⟨z.1,by omega⟩) h4;have hel:ElemsOf (intKind prog w) es.toList:=znE hsm h4
 have hz:es.size<=8:=by rw [<-yaD,h4.len];exact zaF
 have hb:es.size<scanBound:=by unfold scanBound;omega
 unfold setAddHashed setAddHashedIn;refine ybr (yaa (wpAny_setState_of (s:={ s with toks:=s.toks+1 }) ho hd hf ?_));dsimp only;rw [byScan_of (knd:=intKind prog w) rfl hb hel];simp only [↓reduceIte];unfold setAddByScan;refine yaa ?_;refine yaa (ycL ?_);refine yaa (wpAny_setScan_of (knd:=intKind prog w) (k:=k) (s:={ s with toks:=s.toks+1 }) (intKind_is _ _ _ _) ho hd hf hel ?_)
 cases hr:List.findIdx? (fun e=>(intKind prog w).is k e.2) es.toList with
 | some j =>
  dsimp only;obtain ⟨hj,hpj,_⟩:=List.findIdx?_eq_some_iff_getElem.mp hr;obtain ⟨k',tk',hk',e'⟩:=h4.mem (yaQ hj);rw [e'] at hpj;obtain ⟨u,eu⟩:=yc0 (k:=k) (v:=Value.int k' tk') hpj
  have:k'=k:=by injection eu
  subst this;have hin:k'∈ks:=(za1.mp hk').2;refine yae (yae (h s.heap _ (Heap.SameBut.refl a s.heap) ?_));refine ⟨o,es,ep,t,ho,hex,hd,?_⟩;rw [znP hin];exact ⟨h1,h2,h5,h6,h3,h4⟩
 | none =>
  dsimp only
  have hni:k ∉ ks:=fun z=>by
   obtain ⟨tk',he⟩:=h4.has (za1.mpr ⟨hk,z⟩);have:=List.findIdx?_eq_none_iff.mp hr _ he;rw [intKind_is] at this;cases this
  obtain ⟨es1,t1,eL,g1,g2,g3,g4,g5,g6,g7⟩:=zp2 (tk:=tk) hk hni h1 h2 h3 h4;rw [zfK prog w hk,eL];dsimp only;refine yaa (ycr (a:=()) rfl ?_)
  have hsz1:es1.size=(zag (ks++[k])).length:=by rw [<-yaD,g7.len]
  have hsl:es1.size<=sizeLine:=by rw [hsz1];exact yak zaF (by decide)
  rw [g3,h5];simp only [ybT];refine yaa ?_;rw [hashByValue_scannable 8 (x:=.int k tk) rfl];refine yae ?_;have hpk:plainKind (.int k tk)=true:=rfl;rw [hpk];simp only [ybT];refine yaa (wpAny_storeSet_of (s:={ s with toks:=s.toks+1 }) ho hd ?_ hsl);obtain ⟨o1,w1,x1,d1⟩:=zwO (es':=es1) (t':=t1) ho hex hd;have sb1:Heap.SameBut a s.heap (s.heap.update a (Obj.putSet es1 t1)):=Heap.SameBut.update ..
  have hlen:(zag (ks++[k])).length=(zag ks).length+1:=by
   obtain ⟨c,hc⟩:=zjl ((zag ks).map Int.toNat) k.toNat (zc0 zbg zdf);rw [zhC hk hni hc]
   have:c<=(zag ks).length:=by have:=hc.1;rwa [yad] at this
   simp only [yam,yan,yaC,ybf];omega
  have hfill:t1.fill=(zag (ks++[k])).length:=by
   unfold SetTable.fill;rw [g2];show t1.place.size+0=_;rw [<-yaD,g1,yad];rfl
  by_cases hfull:(!false&&t1.tooFull)=true
  ·rw [if_pos hfull]
   have h5':(zag (ks++[k])).length=5:=by
    have hf:(zag (ks++[k])).length*5 ≥ t.mask*3:=by
     have:t1.tooFull=true:=by simpa using hfull
     unfold SetTable.tooFull at this;rw [hfill,g5] at this;simpa using this
    have:=zaF (ks:=ks++[k])
    rcases h3 with z | ⟨z,y⟩
    ·rw [z] at hf;omega
    ·rw [z] at hf;omega
   obtain ⟨t2,er,r1,r2,r3,r4,r5⟩:=zrT (t:=t1) h5' g7;rw [er];dsimp only;refine yaa (ycr (a:=()) rfl ?_);refine yaa (wpAny_storeSet_of (s:={ s with heap:=s.heap.update a (Obj.putSet es1 t1),toks:=s.toks+1 }) w1 d1 ?_ hsl);obtain ⟨o2,w2,x2,d2⟩:=zwO (es':=es1) (t':=t2) w1 x1 d1;have sb2:Heap.SameBut a s.heap ((s.heap.update a (Obj.putSet es1 t1)).update a (Obj.putSet es1 t2)):=sb1.trans (Heap.SameBut.update ..);refine yae ?_;dsimp only;refine yae (h _ true sb2 ⟨o2,es1,_,t2,w2,x2,d2,r1,r2,by rw [r3,g3,h5],by rw [r4,g4,h6],.inl r5,g7⟩)
  ·rw [if_neg hfull];refine yae ?_;dsimp only;refine yae (h _ true sb1 ⟨o1,es1,_,t1,w1,x1,d1,g1,g2,by rw [g3,h5],by rw [g4,h6],?_,g7⟩);rw [g5]
   rcases h3 with z | ⟨z,y⟩
   ·exact .inl z
   ·refine .inr ⟨z,?_⟩
    have:t1.tooFull=false:=by cases q:t1.tooFull with
     | false=>rfl
     | true=>rw [q] at hfull;exact absurd rfl hfull
    unfold SetTable.tooFull at this;rw [hfill,g5,z] at this;have:=of_decide_eq_false this;omega
end
def ISet.keep(x:ISet w h a ks)(e:∀o,h.get? a=some o->h'.get? a=some o):ISet w h' a ks:=by
 obtain ⟨o,es,ep,t,ho,r⟩:=x.ex;exact ⟨o,es,ep,t,e o ho,r⟩
theorem ISet.fresh{w:World}{h:Heap}{a:Addr}(e:h.get? a=some { cls:=.type "set",dict:=none,data:=.set #[] 0 (.fresh 0 0 (!byT w)) }):ISet w h a [] :=
 ⟨_,#[],0,.fresh 0 0 (!byT w),e,⟨rfl,rfl,rfl⟩,rfl,rfl,rfl,rfl,rfl,.inr ⟨rfl,by decide⟩,⟨rfl,fun i k z=>by cases z⟩⟩
section
variable{prog:Program}{w:World}{A:Around}{R:Result->Shared->Prop}{I:Addr}{fp wr:List Addr}{G:Array GenState->Array GenState->Prop}{n:Nat}{P:Nat->Value->Prop}{St:Nat->Shared->Prop}
theorem zhm(W:WalksS prog w A.in1 I fp wr G n P St)(S:Addr)(hSf:S ∉ fp)(val:Nat->Int)(hval:∀i v,P i v->∃t,v=.int (val i) t)(hs:∀i,i<n->0<=val i/\val i<8) :
  ∀(k i:Nat) (s:Shared),n-i=k->i<=n->St i s->ISet w s.heap S ((List.range i).map val) →
   (∀s',Moved (S::wr) G s s'->ISet w s'.heap S ((List.range n).map val)->R (.ok (.ret .none)) s') →
   codeAny (model prog w) A (.builtin "set.update.loop" ⟨[.ref S,.ref I],[]⟩) R s:=by
 have hSw:S ∉ wr:=fun h=>hSf (W.sub _ h)
 have hsub:∀b∈wr,b∈S::wr:=fun b hb=>yaw _ hb
 intro k
 induction k with
 | zero =>
  intro i s hk hi hst hS hR
  have hin:i=n:=by omega
  subst hin;refine ycS yb7 ?_;rw [ycG ybx _];show wpAny _ A.in1 (pyNext (.ref I) >>= _) _ _ s;refine yaa (W.done s _ _ hst fun s' hm=>?_);show wpAny _ A.in1 (ret Value.none) _ _ s';exact yae (hR s' (hm.mono hsub) (hS.keep fun o ho=>hm.heap S _ hSw ho))
 | succ k ih =>
  intro i s hk hi hst hS hR
  have hlt:i<n:=by omega
  refine ycS yb7 ?_;rw [ycG ybx _];show wpAny _ A.in1 (pyNext (.ref I) >>= _) _ _ s;refine yaa (W.item i s _ _ hlt hst fun v s' hP hst' hm=>?_);obtain ⟨t,rfl⟩:=hval i v hP;have hS':ISet w s'.heap S ((List.range i).map val):=hS.keep fun o ho=>hm.heap S _ hSw ho
  show wpAny _ A.in1 (holding [Value.int (val i) t] (setAdd S (.int (val i) t)) >>= _) _ _ s';refine yaa (ybr ?_);refine znp hS' (hs i hlt) fun h' c hsb hS2=>?_
  have hSi:ISet w h' S ((List.range (i+1)).map val):=by
   rw [ybB,ybC];exact hS2
  refine yae ⟨plainId_quiet ybx _,ih (i+1) _ (by omega) hlt (W.frame _ s' _ _ hst' (ybR _) fun b hb o e=>?_) hSi fun s'' hm'' hS''=>?_⟩
  ·rw [hsb.2 b (fun h:b=S=>hSf (by rw [<-h];exact hb))];exact e
  ·refine hR s'' (Moved.trans W.gtrans ((hm.mono hsub).then_heap (ybR _) fun b o hb e=>?_) hm'') hS'';rw [hsb.2 b (fun h:b=S=>hb (by rw [h];exact yaA))];exact e
end
end ST
namespace PySem
section
variable{prog:Program}{w:World}{A:Around}{E:Z5}{s:Shared}
def zgu(a:Value){Q₁:Z5}
  (h:Q₁ (.ref s.heap.objs.size) { s with heap:=s.heap.push { cls:=.type "set",dict:=none,data:=.set #[] 0 (.fresh 0 0 (!ST.byT w)) } }) :
  codeAny (model prog w) A (.call (.builtin "set.__new__") ⟨[.type "set",a],[]⟩) (wants Q₁ E) s:=by
 refine codeAny_of_tree ?_;show wpAny _ A.in1 (do checkBuiltinCall "set.__new__" ⟨[.type "set",a],[]⟩;again (.builtin "set.__new__" ⟨[.type "set",a],[]⟩)) _ _ s;refine yaa (ycr (F.newCall_set_1 a) (yae ⟨plainId_quiet F.plain_set_new _,ycS F.entry_set_new ?_⟩));rw [ycG F.plain_set_new _];unfold Builtin.«set.__new__» Builtin.Frozenset.newClass;have hsub:=sub_set_self;obtain ⟨hp,g,d,tk,os⟩:=s;dsimp only
 wp_walk
 refine wpAny_askSetting (yae ?_);dsimp only;simp only [newObj];refine yaa (wpAny_alloc (yae ?_));exact yae h
theorem zhE{l:Addr}{items:Array Value}{ns:List Int}{Q:Z5}
  (hh:A.handled=none) (hl:s.heap.IsList l items\/s.heap.IsTuple l items) (hi:PyProof.Rows.IntsAre items.toList ns) (hs:∀k∈ns,0<=k/\k<8)
  (h:∀(h':Heap) (tk:Nat),ST.ISet w h' s.heap.objs.size ns->(∀b o,s.heap.get? b=some o->h'.get? b=some o)->Q (.ref s.heap.objs.size) { s with heap:=h',toks:=tk }) :
  wpAny (model prog w) A (call (.type "set") [.ref l]) Q E s:=by
 have hnl:items.size=ns.length:=by rw [<-yaD];exact PyProof.Rows.IntsAre.length hi
 have ern:(List.range items.size).map (fun i=>ns.getD i 0)=ns:=by
  apply ybz;intro i;rw [yal,hnl]
  by_cases hi:i<ns.length
  ·rw [List.getElem?_range hi,yab hi];show some (ns.getD i 0)=_;rw [yaf,yab hi];rfl
  ·rw [ya2 (by rw [ycs];omega),ya2 (by omega)];rfl
 obtain ⟨c,tl,hmro⟩:=ybZ.mro;have hmade:=ybZ.made;have hsub:=ybZ.sub;refine wpAny_call (codeAny_of_tree ?_);show wpAny _ _ (callAny (.type "set") _) _ _ _;refine yae ⟨Code.quiet_builtin _ (by decide +kernel),ycS F.entry_type_call ?_⟩;rw [Around.under_plain (weight_type_call_type "set" [.ref l] []) rfl];have h1:=ybZ.notType;have h2:=ybZ.canCreate;have hct:=F.typeCall_set_1 (.ref l)
 repeat (any_goals (first | assumption | wp_step))
 refine ycw (zgu (.ref l) (E:=E) (Q₁:=fun obj s₁=>obj=.ref s.heap.objs.size/\s₁={ s with heap:=s.heap.push { cls:=.type "set",dict:=none,data:=.set #[] 0 (.fresh 0 0 (!ST.byT w)) } }) ⟨rfl,rfl⟩) fun r s₁ hr=>?_
 cases r with
 | error e=>exact hr
 | ok fl =>
  cases fl with
  | ret obj =>
   obtain ⟨rfl,rfl⟩:=hr;generalize hG:s.heap.push { cls:=.type "set",dict:=none,data:=.set #[] 0 (.fresh 0 0 (!ST.byT w)) }=G;have hS:G.get? s.heap.objs.size=some { cls:=.type "set",dict:=none,data:=.set #[] 0 (.fresh 0 0 (!ST.byT w)) }:=hG ▸ yao _ rfl;have upG:∀b o,s.heap.get? b=some o->G.get? b=some o:=fun b o e=>hG ▸ yag _ e
   have hGz:G.objs.size=s.heap.objs.size+1:=by rw [<-hG,ya0]
   have hT:Shared.TypeIs { s with heap:=G } (.ref s.heap.objs.size) "set":=⟨_,hS,rfl⟩;have hli:=ybZ.init.lookup;have hbi:=ybZ.init.bind (.ref s.heap.objs.size)
   repeat (any_goals (first | assumption | wp_step))
   refine ycw (codeAny_call_builtin (R:=wants (fun r s₂=>r=.none/\∃h' tk,s₂={ s with heap:=h',toks:=tk }/\ST.ISet w h' s.heap.objs.size ns ∧
     (∀b o,s.heap.get? b=some o->h'.get? b=some o)) E) ybZ.init.plain F.entry_set_init (check_set_init_1 hT ?_)) fun r₂ s₂ hr₂=>?_
   ·rcases hl with hl | hl
    all_goals
     obtain ⟨ol,hol,hcl,nl,hdl⟩:=hl;have hol':G.get? l=some ol:=upG l ol hol;obtain ⟨ocls,odict,odata,oslots⟩:=ol;simp only at hcl hdl;subst hcl;subst hdl;have hsls:=F.sub_list_set;have hsls2:=F.sub_tuple_set;have hslf:=F.sub_list_frozenset;have hslf2:=F.sub_tuple_frozenset
     have hne:(Value.type "list" == Value.type "dict")=false:=by decide
     have hne2:(Value.type "tuple" == Value.type "dict")=false:=by decide
     unfold Builtin.«set.__init__» noKeywords Builtin.Frozenset.updateFrom;generalize hPI:pyIter=PI
     wp_walk
     subst hPI
     first | refine ycp (⟨_,hol',rfl,nl,rfl⟩:G.IsList l items) ?_ | refine ybI (⟨_,hol',rfl,nl,rfl⟩:G.IsTuple l items) ?_
     refine yaa (wpAny_runValue ?_);have hlS:l<s.heap.objs.size:=yar hol
     have hh3:A.in1.in1.in1.handled=none:=by simp [hh]
     have hneI:l≠G.objs.size:=by rw [hGz];exact yax (yb0 hlS)
     have hSf:s.heap.objs.size ∉ [G.objs.size,l]:=by
      rw [hGz];simp only [yau,yaF,ya4,ycu,not_or];exact ⟨yax (ybF _),ya6 hlS⟩
     have hval:∀(i:Nat) (v:Value),items[i]?=some v->∃t,v=.int ((fun i=>ns.getD i 0) i) t:=fun i v hv =>
      PyProof.Rows.IntsAre.int_at hi i v (by rw [ybi];exact hv)
     first | refine ST.zhm ((Walks.list hh3 _ l hneI items).toS) s.heap.objs.size hSf (fun i=>ns.getD i 0) hval (fun i hi=>?_) (items.size-0) 0 _ (by omega) (yba _) ⟨⟨_,yao _ rfl,rfl,rfl⟩,((show G.IsList l items from ⟨_,hol',rfl,nl,rfl⟩).push _)⟩ ?hS0 ?hR | refine ST.zhm ((Walks.tuple hh3 _ l hneI items).toS) s.heap.objs.size hSf (fun i=>ns.getD i 0) hval (fun i hi=>?_) (items.size-0) 0 _ (by omega) (yba _) ⟨⟨_,yao _ rfl,rfl,rfl⟩,((show G.IsTuple l items from ⟨_,hol',rfl,nl,rfl⟩).push _)⟩ ?hS0 ?hR
     ·have hlt:i<ns.length:=by omega
      show 0<=ns.getD i 0/\ns.getD i 0<8;rw [yaf,yab hlt];exact hs _ (yaQ hlt)
     case hS0=>exact ST.ISet.fresh (yag _ hS)
     case hR =>
      intro s' hm hS';rw [ern] at hS';obtain ⟨h',g',d',tk',os'⟩:=s';have eg:g'=s.gens:=hm.gens;have ed:d'=s.drawn:=hm.drawn;have eo:os'=s.os:=hm.os;subst eg;subst ed;subst eo;show wpAny _ _ _ _ _ _;refine yae ?_;show wpAny _ _ (ret Value.none) _ _ _;refine yae ⟨rfl,h',tk',rfl,hS',fun b o e=>?_⟩;have hb1:b≠s.heap.objs.size:=yax (yar e)
      have hb2:b≠G.objs.size:=by rw [hGz];exact yax (yb0 (yar e))
      exact hm.heap b o (by simp only [yau,yaF,ya4,ycu,not_or];exact ⟨hb1,hb2⟩) (yag _ (upG b o e))
   ·cases r₂ with
    | error e=>exact hr₂
    | ok fl₂ =>
     cases fl₂ with
     | ret r =>
      obtain ⟨rfl,h',tk,rfl,hS',hk'⟩:=hr₂
      repeat (any_goals (first | assumption | wp_step))
      exact h _ _ hS' hk'
     | _=>exact hr₂.elim
  | _=>exact hr.elim
end
end PySem
namespace L2
open PySem PySem.Spec PyProof.Rows
section
variable{X:Cx}
theorem zgL:∀{ns:List Int} {vs:List Value},Vals (ns.map V.int) vs->IntsAre vs ns
 | [],_,r=>by rw [List.map_nil] at r;cases r;exact .nil
 | n::ns,_,r=>by
  rw [yav] at r
  cases r with
  | cons h t =>
   obtain ⟨u,e⟩:=(show ∃t,_=Value.int n t from h);subst e;exact .cons n u (zgL t)
theorem zfy(hc:X.calm=true):zdw X (.type "set") (fun xs H Q=>∃(p:Addr) (ns:List Int),xs=[.ref p]/\SqT X.K H p (ns.map V.int)/\(∀k∈ns,0<=k/\k<8)/\∀l,H l=none->Q (.ref l) (upd H l (.ext (zjr l (ST.zag ns).length)))):=by
 intro pins s σ H xs us Q I r h;obtain ⟨p,ns,rfl,hq,hs,q⟩:=h;obtain ⟨u,rfl,rx⟩:=zeP r;cases rx;obtain ⟨its,rv,pl,hz⟩:=I.tuple hq;refine zhE (I.ok.hd hc) (.inr (show s.heap.IsTuple p its.toArray from pl)) (by simpa using zgL rv) hs fun h' tk S kp=>?_
 refine ⟨.ref s.heap.objs.size,_,I.laid (t':=tk) (o:=.ext (zjr s.heap.objs.size (ST.zag ns).length)) kp (yaj _) ?_,rfl,q _ (I.hok.fresh (yaj _))⟩;obtain ⟨o,es,ep,t,e1,e2,e3,h1,h2,_,_,h3,h4⟩:=S.ex;exact ⟨⟨o,es,ep,t,e1,e2,e3,ST.zc4 ST.zaF h1 h2 (h3.imp id fun z=>⟨z.1,by omega⟩) h4,by rw [<-yaD,h4.len]⟩,⟨o,e1⟩,fun h1 h2 ⟨o,es,ep,t,f1,f⟩ k=>⟨o,es,ep,t,k o f1,f⟩⟩
end
end L2
namespace S2
open PySem PySem.Spec PyProof.Rows L2
def zc3:D->Option D | .tup l=>(zbB l).bind fun ns=>if ns.all (fun k=>decide (0<=k/\k<8)) then some (.int ((ST.zag ns).length:Nat)) else none | _=>none
section
variable{X:Cx}{cl:Cf}{E:St->XK}{e:Expr}{f:Fe}{pos:Pos}
theorem zjD(hc:X.calm=true)(hg:Gl X "len")(hm:X.mg "len" = none)(hg2:Gl X "set")(hm2:X.mg "set" = none)(he:PE X e (tE cl E f))(hs:starEach [e] X.env=[(false,eval e X.env)]) :
  PE X (.Call (.Name "len" p) [.Call (.Name "set" p2) [e] [] pos2] [] pos) (tE cl E (eUn zc3 f)):=by
 refine PE.imp (zeH zgy hg hm PySem.boot_len (za7 (zc1 (zfy hc) hg2 hm2 (by decide +kernel) (zcs he zeo hs) (he:=hs) (hpl:=rfl)) zcF)) ?_;rintro σ H Q ⟨B,w,ρ,S,rfl,R,q⟩;refine ⟨B,w,ρ,S,rfl,R,?_⟩;unfold eUn at q
 cases hf:f ρ S with
 | bad=>rw [hf] at q;exact q.elim
 | exc c S1=>rw [hf] at q;simp only [zal,hf,Out.bind];exact q
 | ok d S1 =>
  rw [hf] at q;simp only [zal,hf,Out.bind];intro vs w1 R1 F1 sh;dsimp only [Out.bind] at q
  cases d with
  | tup l =>
   cases hk:zbB l with
   | none=>simp [zc3,hk,Out.of] at q
   | some ns =>
    by_cases h8:ns.all (fun k=>decide (0<=k/\k<8))=true
    ·simp only [zc3,hk,Option.bind,h8,ybT] at q
     cases sh with
     | cons h1 hn =>
      cases hn
      cases h1 with
      | tup ep k r =>
       have er:=zfc r hk;subst er;refine ⟨_,ns,rfl,SqT.of ep,fun k hk=>yaq (ybl.mp h8 k hk),fun l hl=>?_⟩;have hd:=ST.zaF (ks:=ns);refine ⟨l,_,rfl,zay,by omega,?_⟩;exact q _ (w1.add l (.ext (zjr l (ST.zag ns).length))) (R1.grow (zau hl _)) (F1.trans (zau hl _).fut) (.int _)
    ·rw [ycC] at h8;simp only [zc3,hk,Option.bind,h8,yaM,ybL] at q;exact q.elim
  | _=>exact q.elim
end
end S2
namespace ST
open PySem PySem.Spec PyProof.Rows
theorem zbo:Slot "set_iterator" "__next__" "set_iterator.__next__" :=
 .of (owner:="set_iterator") (n:="__next__") (by rw [typeLookup_type,builtinLookup_eq_fast];kernel_rfl) (by decide +kernel) (by decide +kernel) (by decide +kernel)
  (by first | exact .inl (by decide +kernel) | exact .inr (by decide +kernel)) (by rw [isSubtype_type];kernel_rfl)
theorem zen:Slot "set_iterator" "__iter__" "set_iterator.__iter__" :=
 .of (owner:="set_iterator") (n:="__iter__") (by rw [typeLookup_type,builtinLookup_eq_fast];kernel_rfl) (by decide +kernel) (by decide +kernel) (by decide +kernel)
  (by first | exact .inl (by decide +kernel) | exact .inr (by decide +kernel)) (by rw [isSubtype_type];kernel_rfl)
def zd3:entryFor table "set_iterator.__next__" = some Builtin.«set_iterator.__next__»:=entryFor_of_tree (by kernel_rfl)
theorem zgq:entryFor table "set_iterator.__iter__" = some Builtin.«dict_keyiterator.__iter__» :=
 entryFor_alias (id':="dict_keyiterator.__iter__") (by kernel_rfl) rfl (by decide +kernel) (by kernel_rfl)
theorem zhx:entryFor table "set.__iter__" = some Builtin.«frozenset.__iter__» :=
 entryFor_alias (id':="frozenset.__iter__") (by kernel_rfl) rfl (by decide +kernel) (by kernel_rfl)
def ziP:Manifest.owners.lookup (String.ofList ['r','o','t','a','r','e','t','i','_','t','e','s'].reverse)=some Manifest.sig_set_iterator:=by kernel_rfl
def zez(a:Value):argsOk "set_iterator.__next__" ⟨[a],[]⟩:=by
 unfold argsOk;rw [signature?_of (id:="set_iterator.__next__") (n:=['_','_','t','x','e','n','_','_']) (o:=['r','o','t','a','r','e','t','i','_','t','e','s']) (by kernel_rfl) ziP];kernel_rfl
def zhM(a:Value):argsOk "set_iterator.__iter__" ⟨[a],[]⟩:=by
 unfold argsOk;rw [signature?_of (id:="set_iterator.__iter__") (n:=['_','_','r','e','t','i','_','_']) (o:=['r','o','t','a','r','e','t','i','_','t','e','s']) (by kernel_rfl) ziP];kernel_rfl
noncomputable def SAt(w:World)(h:Heap)(a:Addr)(ks:List Int)(es:Array (Int×Value))(ep:Nat)(t:SetTable):Prop :=
 (∃o,h.get? a=some o/\o.ExactSet/\o.data=.set es ep t)/\t.place.toList=(zag ks).map Int.toNat/\t.dummies=#[]/\t.plain=true/\t.led=!byT w/\(t.mask=31\/(t.mask=7/\(zag ks).length<=4))/\Els (zag ks) es.toList
def ISet.sat(x:ISet w h a ks):∃es ep t,SAt w h a ks es ep t:=by
 obtain ⟨o,es,ep,t,h1,h2,h3,r⟩:=x.ex;exact ⟨es,ep,t,⟨o,h1,h2,h3⟩,r⟩
def SAt.at(x:SAt w h a ks es ep t)(e:∀o,h.get? a=some o->h'.get? a=some o):SAt w h' a ks es ep t :=
 let ⟨⟨o,h1,r⟩,q⟩:=x;⟨⟨o,e o h1,r⟩,q⟩
noncomputable def znX(h:Heap)(it a:Addr)(sl i n ep:Nat):Prop:=∃o,h.get? it=some o/\o.cls=.type "set_iterator" /\ o.data=.fields #[.int sl 0,.int i 0,.ref a,.int n 0,.int ep 0]
def znX.typeIs{s:Shared}(x:znX s.heap it a sl i n ep):s.TypeIs (.ref it) "set_iterator":=let ⟨o,ho,hc,_⟩:=x;⟨o,ho,hc⟩
def znX.at(x:znX h it a sl i n ep)(e:∀o,h.get? it=some o->h'.get? it=some o):znX h' it a sl i n ep:=let ⟨o,ho,r⟩:=x;⟨o,e o ho,r⟩
def zkb(w:World)(a:Addr)(ep:Nat)(es:Array (Int×Value)):Array (Int×Value):=if byT w then pickOrder (w.params.setOrder a ep) es else es
def slN(w:World)(l:List Int)(i:Nat):Nat:=if byT w then 0 else if i=0 then 0 else (l.getD (i-1) 0).toNat+1
theorem zel{α:Type}:∀(l:List α) (i:Nat) (h:i<l.length),([l[i]]++l.eraseIdx i).Perm l
 | x::xs,0,_=>List.Perm.refl _
 | x::xs,i+1,h=>by
  have h':i<xs.length:=by simpa using h
  exact (List.Perm.swap x (xs[i]'h') (xs.eraseIdx i)).trans (List.Perm.cons x (zel xs i h'))
theorem zkV{α:Type}:∀(fuel k:Nat) (left:List α) (out:Array α),left.length<=fuel->(pickOrder.go next fuel k left out).toList.Perm (out.toList++left)
 | 0,k,left,out,h=>by
  have:left=[]:=ybq (by omega);subst this;unfold pickOrder.go;rw [yaS]
 | fuel+1,k,[],out,h=>by
  unfold pickOrder.go;have:([]:List α)[next k % ([]:List α).length]?=none:=rfl;rw [this,yaS]
 | fuel+1,k,x::xs,out,h=>by
  have hlt:next k % (x::xs).length<(x::xs).length:=Nat.mod_lt _ (by simp);unfold pickOrder.go;rw [yab hlt];dsimp only
  have hl:((x::xs).eraseIdx (next k % (x::xs).length)).length<=fuel:=by
   rw [List.length_eraseIdx_of_lt hlt];simp at h ⊢;exact h
  refine (zkV fuel (k+1) _ _ hl).trans ?_;rw [Array.toList_push,ybP];refine List.Perm.append_left _ ?_;exact zel _ _ hlt
def zkU{α:Type}(xs:Array α):(pickOrder next xs).toList.Perm xs.toList:=by
 have:=zkV (next:=next) xs.size 0 xs.toList #[] (by simp);unfold pickOrder;simpa using this
def zgc:(zkb w a ep es).toList.Perm es.toList:=by
 unfold zkb;split
 ·exact zkU es
 ·exact List.Perm.refl _
def zeI:(zkb w a ep es).size=es.size:=by
 rw [<-yaD,zgc.length_eq,yaD]
section
variable{prog:Program}{w:World}{A:Around}{E:Z5}{s:Shared}{a:Addr}{ks:List Int}{es:Array (Int×Value)}{ep:Nat}{t:SetTable}
theorem SAt.fits(x:SAt w h a ks es ep t):t.fits es.size=true:=by
 obtain ⟨_,h1,h2,_,_,h3,h4⟩:=x;exact zc4 zaF h1 h2 (h3.imp id fun z=>⟨z.1,by omega⟩) h4
def zdS(x:SAt w s.heap a ks es ep t)(h:Q (es,ep,t) s):wpAny (model prog w) A (setState a) Q E s:=by
 obtain ⟨o,ho,_,hd⟩:=x.1;exact wpAny_setState_of ho hd x.fits h
def zki(h:Q (byT w) s):wpAny (model prog w) A setsByText Q E s:=by
 unfold setsByText;exact yaa (wpAny_askSetting (yae h))
theorem znW{l:List Int}{place:Array Nat}(h1:place.toList=l.map Int.toNat)(hs:l.Pairwise (· < ·))(h0:∀x∈l,0<=x)(hi:i<=l.length):SetTable.below place (if i=0 then 0 else (l.getD (i-1) 0).toNat+1)=i:=by
 refine zfq ?_;have ps:=zc0 hs h0;rw [h1];refine ⟨by rw [yad];exact hi,?_,?_⟩
 ·intro k x hk hx;split
  ·omega
  ·rename_i hne;rw [yal] at hx
   have hkl:k<l.length:=by omega
   have hil:i-1<l.length:=by omega
   rw [yab hkl] at hx;cases hx;rw [yaf,yab hil];show l[k].toNat<l[i-1].toNat+1
   rcases Nat.lt_or_ge k (i-1) with z | z
   ·have:=List.pairwise_iff_getElem.mp hs k (i-1) hkl hil z;have:=h0 _ (yaQ hkl);omega
   ·have:k=i-1:=by omega
    subst this;omega
 ·intro k x hk hx;split
  ·omega
  ·rename_i hne;rw [yal] at hx
   have hkl:k<l.length:=by
    rcases Nat.lt_or_ge k l.length with z | z
    ·exact z
    ·rw [ya2 z] at hx;cases hx
   have hil:i-1<l.length:=by omega
   rw [yab hkl] at hx;cases hx;rw [yaf,yab hil];show l[i-1].toNat+1<=l[k].toNat;have:=List.pairwise_iff_getElem.mp hs (i-1) k hil hkl (by omega);have:=h0 _ (yaQ hil);omega
theorem zkh(x:SAt w s.heap a ks es ep t)(hi:i<=es.size)
  (h:Q ((zkb w a ep es)[i]?.map fun e=>(e.2,slN w (zag ks) (i+1))) s):wpAny (model prog w) A (setNext a (slN w (zag ks) i) i ep) Q E s:=by
 obtain ⟨_,h1,h2,h5,h6,h3,h4⟩:=id x;unfold setNext;refine yaa (zdS x ?_);dsimp only;refine yaa (zki ?_);unfold zkb slN at h;unfold slN
 cases hb:byT w with
 | true =>
  rw [hb] at h;simp only [ybT] at h ⊢;rw [if_neg (by simp)];refine yaa ?_;unfold setWalk;refine yaa (zdS x ?_);dsimp only;refine yaa (zki ?_);rw [hb];simp only [ybT];refine yaa (wpAny_askSetting (yae ?_));exact yae h
 | false =>
  rw [hb] at h h6;simp only [yaM,ybL] at h ⊢;obtain ⟨mask,place,dummies,finger,led,moves,plain⟩:=t;simp only at h1 h2 h5 h6 h3;subst h5 h6;refine ych (fun z=>absurd z yaP) (fun _=>?_);refine yaa (ycr (a:=()) rfl ?_)
  have hz:es.size=(zag ks).length:=by rw [<-yaD,h4.len]
  rw [znW h1 zbg zdf (by omega)];refine yae ?_
  rcases Nat.lt_or_ge i es.size with z | z
  ·have hl:i<(zag ks).length:=by omega
   have e1:es[i]?=some es[i]:=ybe z
   have e2:place[i]?=some ((zag ks)[i]).toNat:=by
    rw [<-ybi,h1,yal,yab hl];rfl
   rw [e1] at h ⊢;rw [e2]
   have e3:(zag ks).getD (i+1-1) 0=(zag ks)[i]:=by
    rw [Nat.add_sub_cancel,yaf,yab hl];rfl
   rwa [if_neg (by omega),e3] at h
  ·have e1:es[i]?=none:=ybU z;rw [e1] at h ⊢;exact h
end
section
variable{prog:Program}{w:World}{A:Around}{E:Z5}{s:Shared}{a it:Addr}{ks:List Int}{es:Array (Int×Value)}{ep:Nat}{t:SetTable}
def zd9(x:SAt w s.heap a ks es ep t)(h:Q es s):wpAny (model prog w) A (setEntries a) Q E s:=by
 unfold setEntries;exact yaa (zdS x (yae h))
theorem zkB{Q:Z5}(x:SAt w s.heap a ks es ep t)
  (hQ:Q (.ref s.heap.objs.size) { s with heap:=s.heap.push { cls:=.type "set_iterator",data:=.fields #[.int 0 0,.int 0 0,.ref a,.int es.size 0,.int ep 0] } }):wpAny (model prog w) A (pyIter (.ref a)) Q E s:=by
 obtain ⟨⟨o,ho,hx,hd⟩,_,_,h5,_⟩:=id x;have hT:s.TypeIs (.ref a) "set":=⟨o,ho,hx.1⟩;refine wpAny_pyIter_slot hT PySem.F.slot_set_iter (yaU PySem.F.slot_set_iter hT zhx ?_ (PySem.F.args_set_iter_1 _));unfold Builtin.«frozenset.__iter__»;refine yaa (ycr (a:=a) rfl ?_);refine yaa ?_;unfold Builtin.Frozenset.sizeOf;refine yaa (zd9 x (yae ?_));refine yaa ?_;unfold setDrawn;refine yaa (zdS x ?_);dsimp only;refine yaa (zki ?_);refine yae ?_;obtain ⟨mask,place,dummies,finger,led,moves,plain⟩:=t;simp only at h5;subst h5
 refine ych (fun z=>absurd z (by
  cases byT w
  ·exact yaP
  ·exact yaP)) (fun _=>?_)
 refine yaa (yae ?_);refine yaa ?_;unfold setEpoch;refine yaa (zdS x (yae ?_));refine yaa (yaX (yae ⟨_,rfl,"set_iterator",_,⟨_,yao _ rfl,rfl⟩,zbo.lookup,hQ⟩))
def zpe{Q:Option Value->Shared->Prop}{i:Nat}{e:Int×Value}(hit:znX s.heap it a (slN w (zag ks) i) i es.size ep)(x:SAt w s.heap a ks es ep t)(hx:(zkb w a ep es)[i]?=some e)
  (hQ:∀h',znX h' it a (slN w (zag ks) (i+1)) (i+1) es.size ep->Heap.SameBut it s.heap h'->Q (some e.2) { s with heap:=h' }):wpAny (model prog w) A (pyNext (.ref it)) Q E s:=by
 obtain ⟨o,ho,hc,hd⟩:=id hit
 have hlt:i<=es.size:=by
  have:=(yb2.mp hx).1;rw [zeI] at this;omega
 unfold pyNext;refine yaa (ycJ (yaV (name:=Str.ofString "__next__") hit.typeIs zbo (yaU zbo hit.typeIs zd3 ?_ (zez _))));unfold Builtin.«set_iterator.__next__»;refine yaa (yae ?_);refine yaa (wpAny_fieldsOf ho hd ?_);dsimp only;refine yaa (zd9 x ?_);rw [if_neg (by simp)];refine yaa ?_;rw [yaI,yaI,yaI];refine zkh x hlt ?_;rw [hx];show wpAny _ _ (setField (.ref it) 0 (rawInt (slN w (zag ks) (i+1))) >>= _) _ _ s;refine yaa (yct ho hd (by simp) ?_);have ho1:=ybp (Obj.mapFields (·.setIfInBounds 0 (rawInt (slN w (zag ks) (i+1))))) ho (ycy (ybk hd _));refine yaa (yct (s:={ s with heap:=s.heap.update it (Obj.mapFields (·.setIfInBounds 0 (rawInt (slN w (zag ks) (i+1))))) }) ho1 (ybk hd _) (by simp) ?_);have ho2:=ybp (Obj.mapFields (·.setIfInBounds 1 (rawInt ((i:Int)+1)))) ho1 (ycy (ybk (ybk hd _) _));refine yae ⟨_,rfl,yae (hQ _ ⟨_,ho2,?_,?_⟩ ((Heap.SameBut.update ..).trans (Heap.SameBut.update ..)))⟩
 ·exact (yc4 ..).trans ((yc4 ..).trans hc)
 ·rw [ybk (ybk hd _)];simp [rawInt]
def zrA{Q:Option Value->Shared->Prop}(hh:A.handled=none)(hit:znX s.heap it a (slN w (zag ks) es.size) es.size es.size ep)(x:SAt w s.heap a ks es ep t)(hQ:∀h',Heap.ExtBut it s.heap h'->Q none { s with heap:=h' }):wpAny (model prog w) A (pyNext (.ref it)) Q E s:=by
 obtain ⟨o,ho,hc,hd⟩:=id hit;unfold pyNext;refine yaa (ycJ (yaV (name:=Str.ofString "__next__") hit.typeIs zbo (yaU zbo hit.typeIs zd3 ?_ (zez _))));unfold Builtin.«set_iterator.__next__»;refine yaa (yae ?_);refine yaa (wpAny_fieldsOf ho hd ?_);dsimp only;refine yaa (zd9 x ?_);rw [if_neg (by simp)];refine yaa ?_;rw [yaI,yaI,yaI];refine zkh x (yaj _) ?_;have hn:(zkb w a ep es)[es.size]?=none:=ybU (by rw [zeI];exact yaj _);rw [hn];show wpAny _ _ (setField (.ref it) 2 .none >>= _) _ _ s;refine yaa (yct ho hd (by simp) ?_);show wpAny _ _ (newExc (.type "StopIteration") [] >>= _) _ _ _;refine yaa ?_;simp only [newExc,newTuple];refine yaa (yaX ?_ (by size_fits));refine yaa (m:=firstArgMember _ _) (ycr (a:=Value.none) (by first | rfl | (simp only [firstArgMember];rfl)) ?_);refine yaX ?_ (by size_fits);simp only [raiseNew];refine yaa (wpAny_handled ?_);rw [show A.in1.handled=none from hh];refine yaa (yae (wpAny_throw ?_));refine yaa (ybS (T:="StopIteration") (b:=true) ⟨_,yao _ rfl,rfl⟩ isSubtype_stop ?_);exact yae (hQ _ (((Heap.SameBut.update ..).extBut.push _).push _))
def zkk(hh:A.handled=none)(I:Addr)(hne:a≠I):Walks prog w A I [I,a] [I] es.size (fun i v=>∃e,(zkb w a ep es)[i]?=some e/\e.2=v) (fun i h=>znX h I a (slN w (zag ks) i) i es.size ep/\SAt w h a ks es ep t) where
 sub:=fun b hb=>by simp at hb;simp [hb]
 frame:=fun _ _ _ st hk=>⟨st.1.at fun o e=>hk I (by simp) o e,st.2.at fun o e=>hk a (by simp) o e⟩
 item:=fun i s Q E hi st hQ=>by
  obtain ⟨e,hx⟩:∃e,(zkb w a ep es)[i]?=some e:=⟨_,ybe (by rw [zeI];exact hi)⟩;refine zpe st.1 st.2 hx fun h' hit' hs'=>?_
  exact hQ e.2 h' s.toks ⟨e,hx,rfl⟩ ⟨hit',st.2.at fun o e=>hs'.extBut a o hne e⟩ fun b o hb e=>hs'.extBut b o (fun h=>hb (by simp [h])) e
 done:=fun s Q E st hQ=>zrA hh st.1 st.2 fun h' he'=>hQ h' s.toks fun b o hb e=>he' b o (fun h=>hb (by simp [h])) e
 self:=fun i s Q E st hQ=>by
  refine wpAny_pyIter_slot st.1.typeIs zen (yaU zen st.1.typeIs zgq ?_ (zhM _));show wpAny _ _ (ret (.ref I)) _ _ s;exact yae ⟨_,rfl,"set_iterator",_,st.1.typeIs,zbo.lookup,hQ⟩
end
open PySem PySem.Spec PySem.W PyProof.Rows
section
variable{prog:Program}{w:World}{A:Around}{E:Z5}{s:Shared}{a:Addr}{ks:List Int}{es:Array (Int×Value)}{ep:Nat}{t:SetTable}
theorem znt(hT:s.TypeIs (.ref r) "set")(h:Q false s):wpAny (model prog w) A (Builtin.List.listLengthHint (.ref r)) Q E s:=by
 unfold Builtin.List.listLengthHint;refine yaa (wpAny_specialOf hT PySem.F.slot_set_len.lookup ?_);generalize hid:("set.__len__":String)=id0
 wp_delta
 rw [show splitId id0=some ("set","__len__") from by subst hid;decide +kernel];subst hid;refine yaa (ybS (T:="set") (b:=true) hT (by rw [isSubtype_type];kernel_rfl) ?_);refine ych (fun hab=>absurd hab (by decide)) (fun _=>?_);refine ych (fun _=>?_) (fun hab=>absurd (by decide +kernel) hab);refine yaa (ycv hT ?_);exact yae h
def SAt.typeIs(x:SAt w s.heap a ks es ep t):s.TypeIs (.ref a) "set":=let ⟨⟨o,ho,hx,_⟩,_⟩:=x;⟨o,ho,hx.1⟩
def SAt.lt(x:SAt w h a ks es ep t):a<h.objs.size:=let ⟨⟨_,ho,_⟩,_⟩:=x;yar ho
def zp3:KdlSrc prog w "set" a a es.size (fun i v=>∃e,(zkb w a ep es)[i]?=some e/\e.2=v) (fun h=>SAt w h a ks es ep t) where
 type:=fun _ x=>x.typeIs
 there:=fun _ x=>⟨x.lt,x.lt⟩
 keep:=fun _ _ x hk=>x.at fun o e=>hk a (.inl rfl) o e
 notList:=by decide
 notTuple:=by decide
 hint:=fun _ _ _ _ x hq=>znt x.typeIs hq
 iter:=fun A s hh x=>⟨_,_,(fun _ _ hq=>zkB x hq),zkk hh _ (yax x.lt),by
  refine ⟨⟨_,yao _ rfl,rfl,?_⟩,x.at fun o e=>yag _ e⟩
  have:slN w (zag ks) 0=0:=by unfold slN;split<;>rfl
  rw [this];rfl⟩
theorem zjz{Q:Z5}(hh:A.handled=none)(S:ISet w s.heap a ks)
  (h:∀(hm h':Heap) (tk e:Nat) (vs:List Value),(∀b o,s.heap.get? b=some o->hm.get? b=some o)->(∀b o,hm.get? b=some o->h'.get? b=some o)->h'.get? hm.objs.size=some (seqObj "list" vs.toArray e)->IntsAre vs (zag ks)->Q (.ref hm.objs.size) { s with heap:=h',toks:=tk }) :
  wpAny (model prog w) A (call (.builtin "sorted") [.ref a]) Q E s:=by
 obtain ⟨es,ep,t,x⟩:=S.sat;have h4:=x.2.2.2.2.2.2
 have hz:es.size=(zag ks).length:=by rw [<-yaD,h4.len]
 have h8:=zaF (ks:=ks);refine Calls.call_function_entry kind_sorted plain_sorted entry_sorted (args_sorted1 _) ?_;unfold Builtin.«sorted»;refine yaa (m:=checkCount "sorted" 1 1 _) (yae ?_);refine yaa (kdu_collect (A:=A.in1) (zp3 (prog:=prog)) hh x (by rw [hz];exact yak h8 (by decide)) fun h' tk acc hk hacc=>?_)
 have hl:acc.toList.length=es.size:=by rw [yaD];exact hacc.1
 refine yaa (wpAny_newList ?_ (by rw [hl,hz];exact yak h8 (by decide)));have hoL:(h'.push (seqObj "list" acc.toList.toArray 0)).get? h'.objs.size=some (seqObj "list" acc.toList.toArray 0):=yao _ rfl
 have hv:acc.toList=(zkb w a ep es).toList.map (·.2):=by
  apply ybz;intro i;rw [yal,ybi,ybi]
  rcases Nat.lt_or_ge i es.size with z | z
  ·have z':i<acc.size:=by rw [hacc.1];exact z
   obtain ⟨e,e1,e2⟩:=hacc.2 i acc[i] (ybe z');rw [ybe z',e1];show some acc[i]=some e.2;rw [e2]
  ·rw [ybU (by rw [hacc.1];exact z),ybU (by rw [zeI];exact z)];rfl
 obtain ⟨ns,hns,hp⟩:∃ns,IntsAre acc.toList ns/\ns.Perm (zag ks):=by
  have go:∀l:List (Int×Value),(∀e∈l,∃k tk,e=(k,Value.int k tk))->IntsAre (l.map (·.2)) (l.map (·.1)):=by
   intro l
   induction l with
   | nil=>intro _;exact .nil
   | cons e l ih =>
    intro hm;obtain ⟨k,tk,rfl⟩:=hm e yaA;exact .cons k tk (ih fun e he=>hm e (yaw _ he))
  refine ⟨(zkb w a ep es).toList.map (·.1),?_,?_⟩
  ·rw [hv]
   exact go _ fun e he=>by
    obtain ⟨k,tk,_,z⟩:=h4.mem (zgc.mem_iff.mp he);exact ⟨k,tk,z⟩
  ·have:=(zgc (w:=w) (a:=a) (ep:=ep) (es:=es)).map (·.1);rwa [h4.hashes] at this
 refine yaa (ybr (yaU slot_list_sort ⟨_,hoL,rfl⟩ entry_list_sort (list_sort_tree (s:={ s with heap:=h'.push (seqObj "list" acc.toList.toArray 0),toks:=tk }) hoL hns (by rw [hl,hz];omega) fun out ns' a1 a2 a3=>⟨_,rfl,?_⟩) (args_list_sort _)));refine yae ⟨_,rfl,?_⟩;obtain ⟨e,he⟩:=sortedHeap_at (out:=out) hoL;have en:ns'=zag ks:=lks_uniq (a2.trans hp) a3 (List.Pairwise.imp (fun {a b} h=>by omega) zbg);refine h h' _ tk e out.toList hk (fun b o hb=>?_) (by simpa using he) (by rw [<-en];exact a1);have hlt:b<h'.objs.size:=yar hb;rw [sortedHeap_old (yax hlt) (by rw [size_push'];exact yb0 hlt)];exact yag _ hb
end
end ST
namespace L2
open PySem PySem.Spec PyProof.Rows
section
variable{X:Cx}
noncomputable def zjs(w:World)(a:Addr)(ks:List Int)(h:Heap):Prop:=ST.ISet w h a ks
theorem zev:∀{ns:List Int} {vs:List Value},Vals (ns.map V.int) vs->IntsAre vs ns
 | [],_,r=>by rw [List.map_nil] at r;cases r;exact .nil
 | n::ns,_,r=>by
  rw [yav] at r
  cases r with
  | cons h t =>
   obtain ⟨u,e⟩:=(show ∃t,_=Value.int n t from h);subst e;exact .cons n u (zev t)
def zgH(h:IntsAre vs ns):Vals (ns.map V.int) vs:=by
 induction h with
 | nil=>exact .nil
 | cons n t _ ih=>exact .cons ⟨t,rfl⟩ ih
def zgw(hc:X.calm=true):zdw X (.type "set") (fun xs H Q=>∃(p:Addr) (ns:List Int),xs=[.ref p]/\SqL X.K H p (ns.map V.int)/\(∀k∈ns,0<=k/\k<8)/\∀l,H l=none->Q (.ref l) (upd H l (.ext (zjs X.w l ns)))):=by
 intro pins s σ H xs us Q I r h;obtain ⟨p,ns,rfl,hq,hs,q⟩:=h;obtain ⟨u,rfl,rx⟩:=zeP r;cases rx;obtain ⟨its,rv,pl,hz⟩:=I.list hq;refine zhE (I.ok.hd hc) (.inl pl.isList) (by simpa using zev rv) hs fun h' tk S kp=>?_
 refine ⟨.ref s.heap.objs.size,_,I.laid (t':=tk) (o:=.ext (zjs X.w s.heap.objs.size ns)) kp (yaj _) ?_,rfl,q _ (I.hok.fresh (yaj _))⟩;refine ⟨S,?_,fun h1 h2 x k=>ST.ISet.keep x k⟩;obtain ⟨o,_,_,_,e,_⟩:=S.ex;exact ⟨o,e⟩
def zfp(hc:X.calm=true):zdw X (.builtin "sorted") (fun xs H Q=>∃(a:Addr) (ns:List Int),xs=[.ref a]/\H a=some (.ext (zjs X.w a ns))/\∀l,H l=none->Q (.ref l) (upd H l (.lst ((ST.zag ns).map V.int)))):=by
 intro pins s σ H xs us Q I r h;obtain ⟨a,ns,rfl,ha,q⟩:=h;obtain ⟨u,rfl,rx⟩:=zeP r;cases rx;obtain ⟨S,_⟩:=I.hok a _ ha;refine ST.zjz (I.ok.hd hc) S fun hm h' tk e vs k1 k2 hg hi=>?_
 have I1:=I.kept k1 (t':=tk);refine ⟨.ref hm.objs.size,_,I1.laid (h':=h') (t':=tk) (o:=.lst ((ST.zag ns).map V.int)) k2 (yaj _) (show zbL X.prog X.w _ h' _ (.lst _) from ⟨?_,vs,e,zgH hi,hg⟩),rfl,q _ (I1.hok.fresh (yaj _))⟩;rw [yad];exact yak ST.zaF (by decide)
end
end L2
namespace S2
open PySem PySem.Spec PyProof.Rows L2
def zhX:D->Option D | .lst l=>(zbB l).bind fun ns=>if ns.all (fun k=>decide (0<=k/\k<8)) then some (.lst ((ST.zag ns).map D.int)) else none | _=>none
section
variable{X:Cx}{cl:Cf}{E:St->XK}{e:Expr}{f:Fe}{pos:Pos}
theorem zgT:∀{l:List Int},Shds cl w (l.map V.int) (l.map D.int)
 | []=>.nil
 | i::l=>.cons (.int i) (zgT (l:=l))
theorem zpk(hc:X.calm=true)(hK:X.K=cl.K)(hg:Gl X "sorted")(hm:X.mg "sorted" = none)(hg2:Gl X "set")(hm2:X.mg "set" = none)(he:PE X e (tE cl E f))(hs:starEach [e] X.env=[(false,eval e X.env)]) :
  PE X (.Call (.Name "sorted" p) [.Call (.Name "set" p2) [e] [] pos2] [] pos) (tN cl E (eUn zhX f)):=by
 refine PE.imp (zeH (zfp hc) hg hm (by decide +kernel) (za7 (zc1 (zgw hc) hg2 hm2 (by decide +kernel) (zcs he zeo hs) (he:=hs) (hpl:=rfl)) zcF)) ?_;rintro σ H Q ⟨B,w,ρ,S,rfl,R,q⟩;refine ⟨B,w,ρ,S,rfl,R,?_⟩;unfold eUn at q
 cases hf:f ρ S with
 | bad=>rw [hf] at q;exact q.elim
 | exc c S1=>rw [hf] at q;simp only [zal,hf,Out.bind];exact q
 | ok d S1 =>
  rw [hf] at q;simp only [zal,hf,Out.bind];intro vs w1 R1 F1 sh;dsimp only [Out.bind] at q
  cases d with
  | lst l =>
   cases hk:zbB l with
   | none=>simp [zhX,hk,Out.of] at q
   | some ns =>
    by_cases h8:ns.all (fun k=>decide (0<=k/\k<8))=true
    ·simp only [zhX,hk,Option.bind,h8,ybT] at q
     cases sh with
     | cons h1 hn =>
      cases hn
      cases h1 with
      | lst ep k r =>
       have er:=zfc r hk;subst er;refine ⟨_,ns,rfl,SqL.of ep,fun k hk=>yaq (ybl.mp h8 k hk),fun l hl=>⟨l,ns,rfl,zay,fun l2 hl2=>?_⟩⟩;exact q l2 _ (w1.add l (.ext (zjs X.w l ns))) (R1.grow (zau hl _)) (F1.trans (zau hl _).fut) hl2 (.lst zgT)
    ·rw [ycC] at h8;simp only [zhX,hk,Option.bind,h8,yaM,ybL] at q;exact q.elim
  | _=>exact q.elim
end
end S2
namespace L2
open PySem PySem.Spec PyProof.Rows
def zjX(l:Addr)(items:Array Value)(n:Nat)(b:Addr)(items2:Array Value)(hc0:¬(!items.isEmpty&&Builtin.List.listTooLong (items.size+items2.size))=true)(hc1:items.size<=sizeLine)(hs2:items.size+items2.size<=sizeLine+1) :
  Meets (Builtin.«list.extend» ⟨[.ref l,.ref b],[]⟩) (fun _ R s=>s.heap.get? l=some { cls:=.type "list",dict:=none,data:=.seq items n,slots:=#[] }/\IsTup s.heap b items2/\R (.ok (.ret Value.none)) { s with heap:=s.heap.update l (Obj.mapSeq fun x=>x++items2),toks:=s.toks }) :=
 .of_wp fun prog w A R s h=>by
  obtain ⟨hl,⟨o,ho,hc,n2,hd⟩,h⟩:=h
  have hz':(items++items2).size<=sizeLine+1:=by rw [Array.size_append];exact hs2
  show wpAny _ A.in1 (Builtin.List.listExtendWith (.ref l) (.ref b) .none) _ _ s;unfold Builtin.List.listExtendWith;refine yaa (ycv ⟨o,ho,hc⟩ ?_)
  have h1:(Builtin.List.listSameRef (.ref l) (.ref b)||Value.type "tuple" == Value.type "list" || Value.type "tuple" == Value.type "tuple")=true:=by simp
  simp only [h1,ybT];refine yaa ?_;unfold Builtin.List.listItems;refine yaa (ybv ho hd (yae ?_));refine yaa ?_;refine yaa (ybv hl rfl (yae ?_));rw [if_neg hc0];show wpAny _ A.in1 (updateSeq l (·++items2) >>= fun _=>ret .none) _ _ s;refine yaa (wpAny_updateSeq hl rfl ?_ hc1 hz');exact yae ⟨_,rfl,h⟩
variable{X:Cx}
noncomputable def zmG:V->List V->Hp->VK->Prop:=fun x vs H Q=>∃l b xs zs,x=.ref l/\vs=[.ref b]/\H l=some (.lst xs)/\H b=some (.tup zs)/\xs.length+zs.length<=sizeLine/\Q .non (upd H l (.lst (xs++zs)))
def zjO:MtM X "list.extend" zmG:=by
 intro pins s σ H x vs v us Q I rx rv h;obtain ⟨l,b,xs,zs,rfl,rfl,hH,hB,hz,q⟩:=h;cases rx;obtain ⟨u,rfl,ru⟩:=rv.one;cases ru;obtain ⟨z,its,n,r,hl,e⟩:=I.lstM hH;obtain ⟨its2,r2,e2,z2⟩:=I.tuple (SqT.of hB);have hl2:zs.length=its2.length:=r2.length
 have hsz:its.toArray.size+its2.toArray.size<=sizeLine:=by rw [yah,yah];omega
 have hlong:¬ (!its.toArray.isEmpty&&Builtin.List.listTooLong (its.toArray.size+its2.toArray.size))=true:=by
  rw [ziX hsz,Bool.and_false];exact yaP
 refine ycc F.slot_list_extend ⟨_,e,rfl⟩ F.entry_list_extend (F.args_list_extend_2 _ _)
  (zjX l its.toArray n b its2.toArray hlong (by rw [yah];omega) (by omega)) ⟨e,e2,?_⟩
 refine ⟨.non,_,I.lset (its':=its++its2) hH e (by simp) (r.append r2) ?_,rfl,q⟩;rw [yam];omega
end L2
namespace S2
open PySem PySem.Spec PyProof.Rows L2
def zh2(i:Nat)(fe:Fe):Fs:=fun ρ S=>match ρ[i]? with
 | some (some (true,.lst l))=>(match fe ρ S with
  | .ok (.tup k) S'=>if zaH (l.length+k.length) then .nx (ρ.set i (some (true,.lst (l++k)))) S' else .bad
  | .ok _ _=>.bad
  | .exc c S'=>.ex c ρ S' | .bad=>.bad)
 | _=>.bad
section
variable{X:Cx}{cl:Cf}{E:St->XK}{own:Bool}{e:Expr}{f:Fe}{pos pos':Pos}
def zo7(hN:X.N[i]?=some x)(hv:Vis X.env.scope x)(hd:(x == ("__debug__":Str))=false)(hcd:(x == ("__classdict__":Str))=false)(he:PE X e (tH cl E f))
  (hpl:zbq e=true) (hln:(ap.endLine == cp.line)=true):PS X (.Expr (.Call (.Attribute (.Name x pos') "extend" ap) [e] [] cp) pos) (tS cl E own (zh2 i f)):=by
 refine PS.imp (zf9 (zk2 (es:=[]) ybs PySem.F.slot_list_extend PySem.F.type_list_extend zjO (zcl hN hv hd hcd) (za7 he zcF (zaN hpl)) (hfew:=zfi (by simp [hpl]) (by simp)) (hline:=hln) (hs:=zaN hpl) (hplain:=rfl))) ?_;rintro De σ H ⟨B,w,ρ,S,rfl,R,q⟩;unfold zh2 at q;split at q
 ·rename_i l hl;obtain ⟨a,xs,e1,h1,h2,t⟩:=R.list hl;refine ⟨_,e1,.inl ⟨rfl,_,SqL.of h2⟩,B,w,ρ,S,rfl,R,?_⟩
  cases hf:f ρ S with
  | bad=>rwa [hf] at q
  | exc c S1=>rw [hf] at q;exact fun w' R' F'=>q σ w' R' F'
  | ok d S1 =>
   rw [hf] at q;intro v w' R' F' h'
   cases d with
   | tup k =>
    dsimp only at q
    cases hz:zaH (l.length+k.length) with
    | false=>rw [hz,if_neg (by decide)] at q;exact q.elim
    | true =>
     rw [hz,if_pos rfl] at q;obtain ⟨a',xs',e1',h1',h2',t'⟩:=R'.list hl;rw [e1] at e1';cases e1';obtain ⟨b,zs,rfl,eb,_,rb⟩:=(h'.top R').tupI;refine ⟨a,b,xs',zs,rfl,rfl,h2',eb,by rw [t'.length,rb.length];exact zaT hz,?_⟩;exact q σ (w'.mut a (.lst (xs'++zs))) (R'.mut (d0:=.non) e1 h1' (.lst (t'.append rb))) (F'.trans (zc6 (by rw [h1'];exact yaE _)))
   | _=>exact q.elim
 ·exact q.elim
end
structure FnI where
 ar:Nat
 own:Bool
 run:List D->Sto->Out D
structure ObE where
 cur:Str
 fk:Str->Str->Bool
 df:Str->Bool
 mt:Str->Option (Str×FnI)
 mks:Str->Option (List D×FnI)
structure Genv where
 con:Str->Option D
 fn:Str->Option FnI
 blt:Str->Bool
 exc:Str->Bool
 und:Str->Str->Bool
 isx:Str->Str->Option Bool
 ob:ObE
 ds:Str->Bool
abbrev bmV:List Value:=[.type "ValueError",.type "Exception",.type "BaseException",.type "object"]
structure GOk(cl:Cf)(G:Genv)(P:Program)(wo:PySem.World)(K:PySem.W.Frag)(mg:Z6)(base:Heap)(k:Nat):Prop where
 con:∀x d,G.con x=some d->∃v u,mg x=some u/\zbr v u/\∀w,Shd cl w v d
 fn:∀x fi,G.fn x=some fi->∃f fd ps,mg x=some (.ref f)/\PySem.W.keepIn K (.ref f)=true/\zce K fd ps []/\FnOk P wo K mg base (CXE P wo) k f fd ps (zgQ cl fi.ar fi.own fi.run)
 blt:∀x,G.blt x=true->mg x=none
 exc:∀c,G.exc c=true->mg c=some (.ref (cl c))/\PySem.W.excIn K (cl c) bmV "ValueError.__new__" = true
 und:∀c C,G.und c C=true->L2.zqR K (cl c) (cl C)
 isx:∀c C b,G.isx c C=some b->PySem.W.ExcCls K (cl c)/\PySem.W.kitOne K (.ref (cl c)) (zxV cl C)=some b
 fk:∀c f,G.ob.fk c f=true->zmj cl c f
 mt:∀m c fi,G.ob.mt m=some (c,fi)->∃f fd ps,Cls K (cl c)/\Meth K (cl c) m f/\zce K fd ps []/\FnOk P wo K mg base (CXE P wo) k f fd ps (zgQ cl fi.ar fi.own fi.run)
 mks:∀c dds fi,G.ob.mks c=some (dds,fi)->∃f fd ps dvs ds k',k'+1<=k/\mg c=some (.ref (cl c))/\Mk K (cl c) f/\zce K fd ps []/\zce K fd ps ds/\Vals dvs ds/\(∀w,Shds cl w dvs dds)/\FnOk P wo K mg base (CXE P wo) k' f fd ps (zgQ cl fi.ar false fi.run)
noncomputable abbrev Names:=List (Str×NameKind)
structure Gx(cl:Cf)(G:Genv)(k:Nat)(X:Cx)(nm:Names)(N:List Str)(E:St->XK):Prop where
 gok:GOk cl G X.prog X.w X.K X.mg X.base k
 room:Room k X.A
 calm:X.calm=true
 pass:zdj (CXE X.prog X.w) X E
 eN:X.N=N
 kk:X.K=cl.K
 pp:X.prog=cl.P
 ww:X.w=cl.wo
 nd:N.Nodup
 vis:∀x kd,nm.lookup x=some kd->∃kd',X.env.scope.names.lookup x=some kd'/\(kd'=kd\/(kd=.free/\kd'=.cell))
 fnx:∀x,nm.lookup x=some .local->X.env.scope.names.lookup x=some .local
noncomputable def idx:List Str->Str->Option Nat
 | [],_=>none
 | y::l,x=>if y=x then some 0 else (idx l x).map (·+1)
theorem zgl:∀{N:List Str} {x:Str} {i:Nat},idx N x=some i->N[i]?=some x
 | y::l,x,i,h=>by
  unfold idx at h;split at h
  ·rename_i e;cases h;rw [e];rfl
  ·cases hr:idx l x with
   | none=>rw [hr] at h;cases h
   | some j=>rw [hr] at h;cases h;simpa using zgl hr
noncomputable def ziR(x:Str):Bool:=!(x == ("__debug__":Str))&&!(x == ("__classdict__":Str))&&!decide (x = "__name__")
def zhd(h:ziR x=true):(x == ("__debug__":Str))=false/\(x == ("__classdict__":Str))=false/\x ≠ "__name__":=by
 unfold ziR at h;simp only [yac,yb1,ycl] at h;exact ⟨h.1.1,h.1.2,h.2⟩
noncomputable def zvk:Option NameKind->Bool | some .local=>true | some .cell=>true | some .free=>true | _=>false
def zbU(nm:Names)(N:List Str)(x:Str):Option Nat:=if zvk (nm.lookup x)&&ziR x then idx N x else none
noncomputable def zbP(nm:Names)(x:Str):Bool:=decide (nm.lookup x=some .globalImplicit)&&ziR x
section
variable{cl:Cf}{G:Genv}{k:Nat}{X:Cx}{nm:Names}{N:List Str}{E:St->XK}
def Gx.slot(g:Gx cl G k X nm N E)(h:zbU nm N x=some i):X.N[i]?=some x/\Vis X.env.scope x/\(x == ("__debug__":Str))=false/\(x == ("__classdict__":Str))=false:=by
 unfold zbU at h;split at h
 ·rename_i hv;rw [yac] at hv;obtain ⟨h1,h2,_⟩:=zhd hv.2;refine ⟨by rw [g.eN];exact zgl h,?_,h1,h2⟩
  cases hk:nm.lookup x with
  | none=>rw [hk] at hv;exact absurd hv.1 (by decide)
  | some kd =>
   obtain ⟨kd',e,z⟩:=g.vis x kd hk;rw [hk] at hv;unfold Vis;rw [e]
   rcases z with rfl | ⟨_,rfl⟩
   ·cases kd'<;>first | exact .inl rfl | exact .inr (.inl rfl) | exact .inr (.inr rfl) | exact absurd hv.1 (by decide)
   ·exact .inr (.inl rfl)
 ·cases h
def Gx.glob(g:Gx cl G k X nm N E)(h:zbP nm x=true):Gl X x/\(x == ("__debug__":Str))=false/\x ≠ "__name__":=by
 unfold zbP at h;rw [yac] at h;obtain ⟨h1,_,h3⟩:=zhd h.2;obtain ⟨kd',e,z⟩:=g.vis x _ (yaq h.1)
 rcases z with rfl | ⟨z,_⟩
 ·exact ⟨e,h1,h3⟩
 ·cases z
end
noncomputable abbrev Rec:=Names->List Str->Expr->Option (Bool×Fe)
noncomputable def okE:Expr->Bool | .Starred _ _=>false | .Set _ _ _=>false | _=>true
def zah(h:okE e=true):zbq e=true:=by cases e<;>first | rfl | cases h
def ze3(h:okE e=true):behindInMarks op e=false:=by cases e<;>first | rfl | cases h
def zgd(h:okE e=true)(v:Value):foldedSetIterable e env v=pure v:=by cases e<;>first | rfl | cases h
noncomputable def zbt:Expr->Bool | .IfExp _ _ _ _=>false | _=>true
noncomputable def zbs(cl:Cf)(G:Genv)(k:Nat)(rc:Rec):Prop:=∀(X:Cx) (nm:Names) (N:List Str) (E:St->XK),Gx cl G k X nm N E->∀(e:Expr) (o:Bool) (f:Fe),rc nm N e=some (o,f) →
 (o=true->PE X e (tN cl E f))/\PE X e (tE cl E f)/\(zbt e=true->PT X e (tTr cl E f))/\okE e=true
noncomputable def shE(rc:Rec)(nm:Names)(N:List Str)(e:Expr):Option Fe:=(rc nm N e).map (·.2)
def opE(rc:Rec)(nm:Names)(N:List Str)(e:Expr):Option Fe:=match e with
 | .Name x _=>(match zbU nm N x with | some i=>some (zak i) | none=>shE rc nm N e)
 | _=>shE rc nm N e
def shL(rc:Rec)(nm:Names)(N:List Str):List Expr->Option (List Fe)
 | []=>some []
 | e::es=>(shE rc nm N e).bind fun f=>(shL rc nm N es).bind fun fs=>some (f::fs)
def opL(rc:Rec)(nm:Names)(N:List Str):List Expr->Option (List Fe)
 | []=>some []
 | e::es=>(opE rc nm N e).bind fun f=>(opL rc nm N es).bind fun fs=>some (f::fs)
section
variable{cl:Cf}{G:Genv}{k:Nat}{rc:Rec}{X:Cx}{nm:Names}{N:List Str}{E:St->XK}
def zaB(hs:zbs cl G k rc)(g:Gx cl G k X nm N E)(h:shE rc nm N e=some f):PE X e (tE cl E f)/\(zbt e=true->PT X e (tTr cl E f))/\okE e=true:=by
 unfold shE at h
 cases hr:rc nm N e with
 | none=>rw [hr] at h;cases h
 | some p =>
  obtain ⟨o,f'⟩:=p;rw [hr] at h;cases h;obtain ⟨_,h2,h3,h4⟩:=hs X nm N E g e o _ hr;exact ⟨h2,h3,h4⟩
def zcc(hs:zbs cl G k rc)(g:Gx cl G k X nm N E)(h:opE rc nm N e=some f):PE X e (tH cl E f)/\okE e=true:=by
 unfold opE at h;split at h
 ·rename_i x pos;split at h
  ·rename_i i hi;cases h;obtain ⟨h1,h2,h3,h4⟩:=g.slot hi;exact ⟨zrM h1 h2 h3 h4,rfl⟩
  ·obtain ⟨h1,_,h3⟩:=zaB hs g h;exact ⟨zkG h1,h3⟩
 ·obtain ⟨h1,_,h3⟩:=zaB hs g h;exact ⟨zkG h1,h3⟩
theorem zeT(hs:zbs cl G k rc)(g:Gx cl G k X nm N E):∀{es:List Expr} {fs:List Fe},shL rc nm N es=some fs->PA X es (tAs cl E fs)/\es.all zbq=true/\fs.length=es.length
 | [],fs,h=>by cases h;exact ⟨zeo,rfl,rfl⟩
 | e::es,fs,h=>by
  unfold shL at h
  cases h1:shE rc nm N e with
  | none=>rw [h1] at h;cases h
  | some f =>
   rw [h1] at h
   cases h2:shL rc nm N es with
   | none=>rw [h2] at h;cases h
   | some fs' =>
    rw [h2] at h;cases h;obtain ⟨a1,_,a3⟩:=zaB hs g h1;obtain ⟨b1,b2,b3⟩:=zeT hs g h2;exact ⟨zcs a1 b1 (zaN (zah a3)),by rw [ybJ,zah a3,b2];rfl,by rw [yan,yan,b3]⟩
theorem zon(hs:zbs cl G k rc)(g:Gx cl G k X nm N E):∀{es:List Expr} {fs:List Fe},opL rc nm N es=some fs->PA X es (tHs cl E fs)/\es.all zbq=true/\fs.length=es.length
 | [],fs,h=>by cases h;exact ⟨zkD,rfl,rfl⟩
 | e::es,fs,h=>by
  unfold opL at h
  cases h1:opE rc nm N e with
  | none=>rw [h1] at h;cases h
  | some f =>
   rw [h1] at h
   cases h2:opL rc nm N es with
   | none=>rw [h2] at h;cases h
   | some fs' =>
    rw [h2] at h;cases h;obtain ⟨a1,a3⟩:=zcc hs g h1;obtain ⟨b1,b2,b3⟩:=zon hs g h2;exact ⟨zhY a1 b1 (zaN (zah a3)),by rw [ybJ,zah a3,b2];rfl,by rw [yan,yan,b3]⟩
end
noncomputable def zxU:Const->Option D
 | .int i=>some (.int i)
 | .bool b=>some (.bl b)
 | .none=>some .non
 | .str x=>some (.str x)
 | _=>none
def zvD:Operator->Option (D->D->Option D)
 | .Add=>some zcz | .Sub=>some zrk | .Mult=>some zi3 | .Mod=>some zmk | .FloorDiv=>some zti | _=>none
noncomputable def zlA:Expr->Bool | .Constant .none _ _=>true | _=>false
noncomputable def zlB:Expr->Bool | .Constant (.bool _) _ _=>true | _=>false
def ltD:=zqW fun i j=>decide (i<j)
def leD:=zqW fun i j=>decide (i<=j)
def gtD:=zqW fun i j=>decide (j<i)
def geD:=zqW fun i j=>decide (j<=i)
def ztk:CmpOp->Expr->Option (D->D->Option D)
 | .Eq,_=>some eqD | .NotEq,_=>some neD | .Lt,_=>some ltD | .LtE,_=>some leD | .Gt,_=>some gtD | .GtE,_=>some geD | .In,_=>some inD | .NotIn,_=>some zkd
 | .Is,b=>if zlA b then some zno else if zlB b then some zvj else none
 | .IsNot,b=>if zlA b then some zib else if zlB b then some zk8 else none
def zj6(rc:Rec)(nm:Names)(N:List Str)(op:BoolOp):List Expr->Option Fe
 | []=>none
 | [a]=>if zbt a then shE rc nm N a else none
 | a::b::r=>if zbt a then (shE rc nm N a).bind fun f=>(zj6 rc nm N op (b::r)).bind fun h=>some (match op with | .And=>zgr f h | .Or=>eOr f h) else none
structure BI where
 g:List D->Option D
 nw:Bool
def zl7(x:Str):Option BI :=
 if x = "len" then some ⟨zcH,false⟩
 else if x = "all" then some ⟨zme,false⟩
 else if x = "sum" then some ⟨zrj,false⟩
 else if x = "tuple" then some ⟨zcf,false⟩
 else if x = "list" then some ⟨zjR,true⟩
 else none
noncomputable def zq6(x:Str):Option String:=if x = "int" then some "int" else if x = "bool" then some "bool" else if x = "tuple" then some "tuple" else if x = "str" then some "str" else if x = "list" then some "list" else none
def zqF(G:Genv)(rc:Rec)(nm:Names)(N:List Str)(x:Str)(args:List Expr):Option (Bool×Fe) :=
 if zbP nm x then
  match G.fn x with
  | some fi=>if args.length=fi.ar then (shL rc nm N args).bind fun fs=>some (fi.own,eFn fi.run fs) else none
  | none=>if G.blt x then
    (if x = "isinstance" then (match args with
     | [a,.Name t _]=>if zbP nm t&&G.blt t&&(zq6 t).isSome then (zq6 t).bind fun T=>(opE rc nm N a).bind fun f=>some (false,eUn (zeB T) f)
      else none
     | _=>none)
    else match args with
     | []=>none
     | _::_=>(zl7 x).bind fun bi=>(opL rc nm N args).bind fun fs=>some (bi.nw,zas bi.g fs)) else none
 else none
noncomputable def zov:Expr->Bool | .Tuple _ _ _=>true | _=>false
def zjU(G:Genv)(rc:Rec)(nm:Names)(N:List Str)(tg e:Expr):Option Fi:=match e with
 | .Call (.Name x p) args [] pos=>if x = "range" then (if zbP nm x&&G.blt x then (match args with
   | [a]=>(shE rc nm N a).bind fun f=>some (zeC f)
   | [a,b]=>(shE rc nm N a).bind fun f=>(shE rc nm N b).bind fun h=>some (zlN f h)
   | _=>none) else none)
  else if x = "enumerate" then (if zbP nm x&&G.blt x&&zov tg then (match args with
   | [a]=>(shE rc nm N a).bind fun f=>some (zlP f)
   | _=>none) else none)
  else if x = "zip" then (if zbP nm x&&G.blt x&&zov tg then (match args with
   | [a,b]=>(shE rc nm N a).bind fun f=>(shE rc nm N b).bind fun h=>some (zqt f h)
   | _=>none) else none)
  else (shE rc nm N e).map zax
 | _=>(shE rc nm N e).map zax
noncomputable def zuy:Expr->Option (Str×Expr×Pos×Pos) | .Call (.Name y p) [a] [] q=>some (y,a,p,q) | _=>none
noncomputable def spA:List Expr->Option (Str×Expr×Pos×Pos) | [e]=>zuy e | _=>none
def zrw(h:spA args=some c):args=[.Call (.Name c.1 c.2.2.1) [c.2.1] [] c.2.2.2]:=by
 match args,h with
 | [e],h =>
  have h':zuy e=some c:=h;unfold zuy at h';split at h'
  ·cases h';rfl
  ·cases h'
def spG(G:Genv)(rc:Rec)(nm:Names)(N:List Str)(x:Str)(args:List Expr):Option (Bool×Fe):=(spA args).bind fun c =>
 if decide (x = "list")&&decide (c.1 = "range")&&zbP nm "list" && G.blt "list" && zbP nm "range" && G.blt "range" then (shE rc nm N c.2.1).map fun f=>(true,eUn lrD f)
 else if decide (x = "sorted")&&decide (c.1 = "set")&&zbP nm "sorted" && G.blt "sorted" && zbP nm "set" && G.blt "set" then (shE rc nm N c.2.1).map fun f=>(true,eUn zhX f)
 else if decide (x = "len")&&decide (c.1 = "set")&&zbP nm "len" && G.blt "len" && zbP nm "set" && G.blt "set" then (shE rc nm N c.2.1).map fun f=>(false,eUn zc3 f)
 else none
section
variable{cl:Cf}{G:Genv}{k:Nat}{rc:Rec}{X:Cx}{nm:Names}{N:List Str}{E:St->XK}
theorem Gx.units(g:Gx cl G k X nm N E):X.A.units+64<cLine:=g.room.units
def zoK(h:zvD op=some gg):OpD X cl (binaryOp op) gg:=by
 cases op<;>simp [zvD] at h<;>subst h
 ·exact zsA
 ·exact zst
 ·exact zsv
 ·exact zsw
 ·exact zsz
def zfT(g:Gx cl G k X nm N E)(h:ztk op b=some gg):OpD X cl (compareOp op) gg:=by
 cases op<;>simp only [ztk] at h
 ·cases h;exact zuW g.kk g.units
 ·cases h;exact zuU g.kk g.units
 ·cases h;exact zge zuQ
 ·cases h;exact zge zuR
 ·cases h;exact zge zuS
 ·cases h;exact zge zuT
 ·split at h
  ·cases h;exact zsx
  ·split at h
   ·cases h;exact zsy
   ·cases h
 ·split at h
  ·cases h;exact zpO
  ·split at h
   ·cases h;exact zpP
   ·cases h
 ·cases h;exact zuV g.kk g.units
 ·cases h;exact zsu g.kk g.units
theorem zl6(hs:zbs cl G k rc)(g:Gx cl G k X nm N E):∀{es:List Expr} {f:Fe},zj6 rc nm N op es=some f->PE X (.BoolOp op es pos) (tE cl E f)/\PW X (.BoolOp op es pos) (tTr cl E f)
 | [],f,h=>by cases h
 | [a],f,h=>by
  unfold zj6 at h;split at h
  ·rename_i ht;obtain ⟨h1,h2,_⟩:=zaB hs g h;refine ⟨zsb h1,?_⟩
   cases op with
   | And=>exact zpt (h2 ht)
   | Or=>exact zrY (h2 ht)
  ·cases h
 | a::b::r,f,h=>by
  unfold zj6 at h;split at h
  ·rename_i ht
   cases h1:shE rc nm N a with
   | none=>rw [h1] at h;cases h
   | some fa =>
    rw [h1] at h
    cases h2:zj6 rc nm N op (b::r) with
    | none=>rw [h2] at h;cases h
    | some fb =>
     rw [h2] at h;obtain ⟨a1,a2,_⟩:=zaB hs g h1;obtain ⟨b1,b2⟩:=zl6 hs g (pos:=pos) h2
     cases op with
     | And=>cases h;exact ⟨zrN a1 b1,zri (a2 ht) b2⟩
     | Or=>cases h;exact ⟨zuA a1 b1,zus (a2 ht) b2⟩
  ·cases h
theorem znU:bootBuiltins "all" = some (.builtin "all"):=by decide +kernel
theorem zfU:bootBuiltins "tuple" = some (.type "tuple"):=by decide +kernel
def zhF:bootBuiltins "list" = some (.type "list"):=by decide +kernel
theorem znT:bootBuiltins "int" = some (.type "int"):=by decide +kernel
theorem zl5:bootBuiltins "bool" = some (.type "bool"):=by decide +kernel
theorem ztY:bootBuiltins "max" = some (.builtin "max"):=by decide +kernel
theorem ztX:bootBuiltins "min" = some (.builtin "min"):=by decide +kernel
theorem ztZ:bootBuiltins "abs" = some (.builtin "abs"):=by decide +kernel
theorem znS:bootBuiltins "str" = some (.type "str"):=by decide +kernel
def zts(g:Gx cl G k X nm N E)(h:zl7 x=some bi)(hg:zbP nm x=true)(hb:G.blt x=true)(ha:PA X (e::es) (tHs cl E fs))(hp:(e::es).all zbq=true) :
  (bi.nw=true->PE X (.Call (.Name x p) (e::es) [] pos) (tN cl E (zas bi.g fs)))/\PE X (.Call (.Name x p) (e::es) [] pos) (tE cl E (zas bi.g fs)):=by
 obtain ⟨g1,g2,g3⟩:=g.glob hg;have m:=g.gok.blt x hb;rw [ybJ,yac] at hp;have st:=zaN (es:=es) (env:=X.env) hp.1;have pl:=zbw (pos:=pos) (env:=X.env) hp.2
 have D1:∀{id:String} {gg:List D->Option D},zka X cl (.builtin id) gg->bootBuiltins x=some (.builtin id)->PE X (.Call (.Name x p) (e::es) [] pos) (tE cl E (zas gg fs)):=fun hc hv =>
  PE.imp (zeH hc g1 m hv ha g3 g2 st pl) fun _ _ _ q=>zrf (fun _ _ _ z=>z) q
 have D2:∀{T:String} {gg:List D->Option D},zka X cl (.type T) gg->bootBuiltins x=some (.type T)->PE X (.Call (.Name x p) (e::es) [] pos) (tE cl E (zas gg fs)):=fun hc hv =>
  PE.imp (zc1 hc g1 m hv ha g3 g2 st pl) fun _ _ _ q=>zrf (fun _ _ _ z=>z) q
 have N2:∀{T:String} {gg:List D->Option D},ztD X cl (.type T) gg->bootBuiltins x=some (.type T)->PE X (.Call (.Name x p) (e::es) [] pos) (tN cl E (zas gg fs)):=fun hc hv =>
  PE.imp (zc1 hc g1 m hv ha g3 g2 st pl) fun _ _ _ q=>zuq (fun _ _ _ z=>z) q
 unfold zl7 at h;split at h
 ·rename_i e';cases h;exact ⟨(fun z=>absurd z (by decide)),D1 (ztn g.kk) (by rw [e'];exact PySem.boot_len)⟩
 split at h
 ·rename_i e';cases h;exact ⟨(fun z=>absurd z (by decide)),D1 (zto g.calm) (by rw [e'];exact znU)⟩
 split at h
 ·rename_i e';cases h;exact ⟨(fun z=>absurd z (by decide)),D1 (ztm g.calm) (by rw [e'];exact PyProof.Rows.boot_sum)⟩
 split at h
 ·rename_i e';cases h;exact ⟨(fun z=>absurd z (by decide)),D2 znO (by rw [e'];exact zfU)⟩
 split at h
 ·rename_i e';cases h;have n:=N2 zqz (by rw [e'];exact zhF);exact ⟨fun _=>n,zcA n⟩
 ·cases h
def zuh(h:zq6 t=some T):bootBuiltins t=some (.type T):=by
 unfold zq6 at h;split at h
 ·rename_i e;cases h;rw [e];exact znT
 split at h
 ·rename_i e;cases h;rw [e];exact zl5
 split at h
 ·rename_i e;cases h;rw [e];exact zfU
 split at h
 ·rename_i e;cases h;rw [e];exact znS
 split at h
 ·rename_i e;cases h;rw [e];exact zhF
 ·cases h
def zqE(hs:zbs cl G k rc)(g:Gx cl G k X nm N E)(h:zqF G rc nm N x args=some (o,f)) :
  (o=true->PE X (.Call (.Name x p) args [] pos) (tN cl E f))/\PE X (.Call (.Name x p) args [] pos) (tE cl E f):=by
 unfold zqF at h;split at h
 ·rename_i hg;obtain ⟨g1,g2,g3⟩:=g.glob hg;split at h
  ·rename_i fi hfi;split at h
   ·rename_i hl;obtain ⟨fa,fd,ps,m1,m2,m3,m4⟩:=g.gok.fn x fi hfi
    cases h1:shL rc nm N args with
    | none=>rw [h1] at h;cases h
    | some fs =>
     rw [h1] at h;cases h;obtain ⟨a1,a2,a3⟩:=zeT hs g h1;have hlen:fs.length=fi.ar:=a3.trans hl
     have main:PE X (.Call (.Name x p) args [] pos) (zgO (zgQ cl fi.ar fi.own fi.run) [] E (tAs cl E fs)):=by
      cases args with
      | nil =>
       cases h1;refine PE.imp (zk1 m4 g.room g1 m1 m2 m3 .nil g.pass g2) ?_;rintro σ H Q ⟨B,w,ρ,S,rfl,R,q⟩;exact q [] w R (Fut.refl _) .nil
      | cons e es =>
       rw [ybJ,yac] at a2;exact zmY m4 g.room g1 m1 m2 m3 .nil g.pass a1 g2 (zaN a2.1) (zbw a2.2)
     cases ho:fi.own with
     | false =>
      rw [ho] at main;exact ⟨(fun z=>by cases z),PE.imp main fun _ _ _ q=>ztr q hlen⟩
     | true =>
      rw [ho] at main;have n:PE X (.Call (.Name x p) args [] pos) (tN cl E (eFn fi.run fs)):=PE.imp main fun _ _ _ q=>ztq q hlen
      exact ⟨fun _=>n,zcA n⟩
   ·cases h
  ·split at h
   ·rename_i hb;split at h
    ·rename_i hx;subst hx;split at h
     ·rename_i a t p2;split at h
      ·rename_i ht;rw [yac,yac] at ht;replace ht:=ht.1
       cases hT:zq6 t with
       | none=>rw [hT] at h;cases h
       | some T =>
        rw [hT] at h
        cases h1:opE rc nm N a with
        | none=>rw [h1] at h;cases h
        | some fa =>
         rw [h1] at h;cases h;obtain ⟨t1,t2,t3⟩:=g.glob ht.1;obtain ⟨a1,a2⟩:=zcc hs g h1;exact ⟨(fun z=>by cases z),zpm g1 (g.gok.blt _ hb) t1 (g.gok.blt _ ht.2) (zuh hT) t3 t2 (zah a2) a1⟩
      ·cases h
     ·cases h
    ·split at h
     ·cases h
     ·rename_i e es
      cases h2:zl7 x with
      | none=>rw [h2] at h;cases h
      | some bi =>
       rw [h2] at h
       cases h1:opL rc nm N (e::es) with
       | none=>rw [h1] at h;cases h
       | some fs =>
        rw [h1] at h;cases h;obtain ⟨a1,a2,_⟩:=zon hs g h1;exact zts g h2 hg hb a1 a2
   ·cases h
 ·cases h
def zly(hs:zbs cl G k rc)(g:Gx cl G k X nm N E)(h:zjU G rc nm N tg e=some fi):PI X tg e (tI cl E fi)/\okE e=true:=by
 have gen:∀{e:Expr},(shE rc nm N e).map zax=some fi->PI X tg e (tI cl E fi)/\okE e=true:=fun {e} h=>by
  cases h1:shE rc nm N e with
  | none=>rw [h1] at h;cases h
  | some f =>
   rw [h1] at h;cases h;obtain ⟨a1,_,a3⟩:=zaB hs g h1;exact ⟨zrB g.kk a1,a3⟩
 unfold zjU at h;split at h
 ·rename_i x p args pos;split at h
  ·rename_i hx;subst hx;split at h
   ·rename_i hb;rw [yac] at hb;obtain ⟨g1,_,_⟩:=g.glob hb.1;have m:=g.gok.blt _ hb.2;split at h
    ·rename_i a
     cases h1:shE rc nm N a with
     | none=>rw [h1] at h;cases h
     | some f =>
      rw [h1] at h;cases h;obtain ⟨a1,_,a3⟩:=zaB hs g h1;exact ⟨zpd g1 m (zcs a1 zeo (zaN (zah a3))) (zaN (zah a3)),rfl⟩
    ·rename_i a b
     cases h1:shE rc nm N a with
     | none=>rw [h1] at h;cases h
     | some f =>
      rw [h1] at h
      cases h2:shE rc nm N b with
      | none=>rw [h2] at h;cases h
      | some f2 =>
       rw [h2] at h;cases h;obtain ⟨a1,_,a3⟩:=zaB hs g h1;obtain ⟨b1,_,b3⟩:=zaB hs g h2;have s1:=zaN (es:=[b]) (env:=X.env) (zah a3);have s2:=zaN (es:=[]) (env:=X.env) (zah b3);exact ⟨zpc g1 m (zcs a1 (zcs b1 zeo s2) s1) (by rw [s1,s2];rfl) s2,rfl⟩
    ·cases h
   ·cases h
  split at h
  ·rename_i hx;subst hx;split at h
   ·rename_i hb;rw [yac,yac] at hb;obtain ⟨g1,_,_⟩:=g.glob hb.1.1;have m:=g.gok.blt _ hb.1.2;split at h
    ·rename_i a
     cases h1:shE rc nm N a with
     | none=>rw [h1] at h;cases h
     | some f =>
      rw [h1] at h;cases h;obtain ⟨a1,_,a3⟩:=zaB hs g h1
      cases tg with
      | Tuple es kk tp=>exact ⟨zpf g1 m (zcs a1 zeo (zaN (zah a3))) (zaN (zah a3)),rfl⟩
      | _=>cases hb.2
    ·cases h
   ·cases h
  split at h
  ·rename_i hx;subst hx;split at h
   ·rename_i hb;rw [yac,yac] at hb;obtain ⟨g1,_,_⟩:=g.glob hb.1.1;have m:=g.gok.blt _ hb.1.2;split at h
    ·rename_i a b
     cases h1:shE rc nm N a with
     | none=>rw [h1] at h;cases h
     | some f =>
      rw [h1] at h
      cases h2:shE rc nm N b with
      | none=>rw [h2] at h;cases h
      | some f2 =>
       rw [h2] at h;cases h;obtain ⟨a1,_,a3⟩:=zaB hs g h1;obtain ⟨b1,_,b3⟩:=zaB hs g h2;have s1:=zaN (es:=[b]) (env:=X.env) (zah a3);have s2:=zaN (es:=[]) (env:=X.env) (zah b3)
       cases tg with
       | Tuple es kk tp=>exact ⟨zry g1 m (zcs a1 (zcs b1 zeo s2) s1) s1 (zbw (by simp [zah b3])),rfl⟩
       | _=>cases hb.2
    ·cases h
   ·cases h
  ·exact gen h
 ·exact gen h
def zux(hs:zbs cl G k rc)(g:Gx cl G k X nm N E)(h:spG G rc nm N x args=some (o,f)):(o=true->PE X (.Call (.Name x p) args [] pos) (tN cl E f))/\PE X (.Call (.Name x p) args [] pos) (tE cl E f):=by
 unfold spG at h
 cases hc:spA args with
 | none=>rw [hc] at h;cases h
 | some c =>
 rw [hc] at h;obtain rfl:=zrw hc;obtain ⟨y,a,p2,pos2⟩:=c;dsimp only [Option.bind] at h ⊢;clear hc;split at h
 ·rename_i hb;simp only [yac,yaZ] at hb;obtain ⟨⟨⟨⟨⟨rfl,rfl⟩,b1⟩,b2⟩,b3⟩,b4⟩:=hb;obtain ⟨g1,_,_⟩:=g.glob b1;obtain ⟨g2,_,_⟩:=g.glob b3
  cases h1:shE rc nm N a with
  | none=>rw [h1] at h;cases h
  | some fa =>
   rw [h1] at h;cases h;obtain ⟨a1,_,a3⟩:=zaB hs g h1;have n:=zuC (p:=p) (p2:=p2) (pos:=pos) (pos2:=pos2) g.calm g1 (g.gok.blt _ b2) g2 (g.gok.blt _ b4) a1 (zaN (zah a3));exact ⟨fun _=>n,zcA n⟩
 split at h
 ·rename_i hb;simp only [yac,yaZ] at hb;obtain ⟨⟨⟨⟨⟨rfl,rfl⟩,b1⟩,b2⟩,b3⟩,b4⟩:=hb;obtain ⟨g1,_,_⟩:=g.glob b1;obtain ⟨g2,_,_⟩:=g.glob b3
  cases h1:shE rc nm N a with
  | none=>rw [h1] at h;cases h
  | some fa =>
   rw [h1] at h;cases h;obtain ⟨a1,_,a3⟩:=zaB hs g h1;have n:=zpk (p:=p) (p2:=p2) (pos:=pos) (pos2:=pos2) g.calm g.kk g1 (g.gok.blt _ b2) g2 (g.gok.blt _ b4) a1 (zaN (zah a3));exact ⟨fun _=>n,zcA n⟩
 split at h
 ·rename_i hb;simp only [yac,yaZ] at hb;obtain ⟨⟨⟨⟨⟨rfl,rfl⟩,b1⟩,b2⟩,b3⟩,b4⟩:=hb;obtain ⟨g1,_,_⟩:=g.glob b1;obtain ⟨g2,_,_⟩:=g.glob b3
  cases h1:shE rc nm N a with
  | none=>rw [h1] at h;cases h
  | some fa =>
   rw [h1] at h;cases h;obtain ⟨a1,_,a3⟩:=zaB hs g h1;exact ⟨(fun z=>by cases z),zjD g.calm g1 (g.gok.blt _ b2) g2 (g.gok.blt _ b4) a1 (zaN (zah a3))⟩
 ·cases h
noncomputable def zob:Expr->Bool | .Name _ _=>true | .Call (.Name _ _) (_::_) _ _=>true | .Attribute (.Name _ _) _ _=>true | _=>false
def zpZ(G:Genv)(rc:Rec)(nm:Names)(N:List Str)(o:Expr)(m:Str)(ap cp:Pos)(args:List Expr)(kws:List Keyword):Option (Bool×Fe) :=
 if kws.isEmpty&&zob o&&(ap.endLine == cp.line)&&decide (args.length<30) then (G.ob.mt m).bind fun c=>if args.length+1=c.2.ar then (shE rc nm N o).bind fun fo=>(shL rc nm N args).bind fun fs=>some (c.2.own,zb9 c.1 m c.2.run fo fs) else none else none
def mkG(G:Genv)(rc:Rec)(nm:Names)(N:List Str)(x:Str)(args:List Expr):Option (Bool×Fe) :=
 if zbP nm x&&!args.isEmpty then (G.ob.mks x).bind fun c=>(shL rc nm N args).bind fun fs =>
  if args.length+1=c.2.ar then some (false,eMk x [] c.2.run fs) else if args.length+c.1.length+1=c.2.ar then some (false,eMk x c.1 c.2.run fs) else none
 else none
noncomputable def zgi:Expr->Bool | .Name _ _=>true | _=>false
def zvu(G:Genv)(rc:Rec)(nm:Names)(N:List Str)(o:Expr)(f:Str):Option (Bool×Fe):=if zgi o&&!G.ob.df f&&G.ob.fk G.ob.cur f then (shE rc nm N o).map fun fo=>(false,zfP G.ob.cur f fo) else none
noncomputable def zvF:Expr->Option (Expr×Str×Pos) | .Attribute o m p=>some (o,m,p) | _=>none
def zl9(h:zvF e=some x):e=.Attribute x.1 x.2.1 x.2.2:=by cases e<;>first | (cases h;done) | (cases h;rfl)
noncomputable def nmF:Expr->Option (Str×Pos) | .Name x p=>some (x,p) | _=>none
def zi0(h:nmF e=some x):e=.Name x.1 x.2:=by cases e<;>first | (cases h;done) | (cases h;rfl)
noncomputable def zow:List CmpOp->Bool | [.NotIn]=>true | _=>false
noncomputable def zwR:List Expr->Option Expr | [a]=>some a | _=>none
def zuX(G:Genv)(rc:Rec)(nm:Names)(N:List Str)(a:Expr)(ops:List CmpOp)(bs:List Expr):Option (Bool×Fe) :=
 if zow ops then (zwR bs).bind fun b=>(zvF b).bind fun t=>if zgi t.1&&G.ob.df t.2.1&&G.ob.fk G.ob.cur t.2.1 then (shE rc nm N a).bind fun fa=>(shE rc nm N t.1).bind fun fo=>some (false,zoD G.ob.cur t.2.1 fa fo) else none else none
def zvr(G:Genv)(rc:Rec)(nm:Names)(N:List Str)(a i:Expr):Option (Bool×Fe) :=
 (zvF a).bind fun t=>if zgi t.1&&G.ob.df t.2.1&&G.ob.fk G.ob.cur t.2.1 then (nmF i).bind fun x=>(zbU nm N x.1).bind fun j=>(shE rc nm N t.1).bind fun fo=>some (false,zjZ G.ob.cur t.2.1 fo j) else none
def Gx.same(g:Gx cl G k X nm N E):Same' cl X:=⟨g.kk,g.pp,g.ww⟩
def Gx.u16(g:Gx cl G k X nm N E):X.A.units+16<cLine:=Nat.lt_of_le_of_lt (Nat.add_le_add_left (by decide) _) g.units
def zaA{α β:Type}{o:Option α}{f:α->Option β}{b:β}(h:o.bind f=some b):∃a,o=some a/\f a=some b:=by
 cases o with
 | none=>cases h
 | some a=>exact ⟨a,rfl,h⟩
def zta(hs:zbs cl G k rc)(g:Gx cl G k X nm N E)(h:zvu G rc nm N o f=some (w,fe)):w=false/\PE X (.Attribute o f pos) (tE cl E fe):=by
 unfold zvu at h;split at h
 ·rename_i hc;rw [yac,yac] at hc
  cases h1:shE rc nm N o with
  | none=>rw [h1] at h;cases h
  | some fo =>
   rw [h1] at h;cases h;refine ⟨rfl,zrK (g.gok.fk _ _ hc.2) g.kk (zaB hs g h1).1 ?_⟩
   cases o<;>first | rfl | cases hc.1.1
 ·cases h
def zsD(hs:zbs cl G k rc)(g:Gx cl G k X nm N E)(h:zuX G rc nm N a ops bs=some (w,fe)):w=false/\PE X (.Compare a ops bs pos) (tE cl E fe)/\PT X (.Compare a ops bs pos) (tTr cl E fe):=by
 unfold zuX at h;split at h
 ·rename_i hn
  have eo:ops=[.NotIn]:=by
   unfold zow at hn;split at hn
   ·rfl
   ·cases hn
  subst eo;obtain ⟨b,h1,hz⟩:=zaA h;obtain ⟨t,h2,hy⟩:=zaA hz
  have eb:bs=[b]:=by
   unfold zwR at h1;split at h1
   ·cases h1;rfl
   ·cases h1
  have e2:=zl9 h2;clear h hz h1 h2;subst eb;subst e2;obtain ⟨o,f,ap⟩:=t;dsimp only at hy ⊢;split at hy
  ·rename_i hc;rw [yac,yac] at hc;obtain ⟨fa,h3,hy⟩:=zaA hy;obtain ⟨fo,h4,hy⟩:=zaA hy;cases hy
   have hb:attributeBase o f X.env (eval o X.env)=eval o X.env:=by cases o<;>first | rfl | cases hc.1.1
   exact ⟨rfl,zrI g.u16 g.same (g.gok.fk _ _ hc.2) (zaB hs g h3).1 (zaB hs g h4).1 hb rfl,zrn g.u16 g.same (g.gok.fk _ _ hc.2) (zaB hs g h3).1 (zaB hs g h4).1 hb rfl⟩
  ·cases hy
 ·cases h
def zs6(hs:zbs cl G k rc)(g:Gx cl G k X nm N E)(h:zvr G rc nm N a i=some (w,fe)):w=false/\PE X (.Subscript a i pos) (tE cl E fe):=by
 unfold zvr at h;obtain ⟨t,h2,hz⟩:=zaA h;have e2:=zl9 h2;clear h h2;subst e2;obtain ⟨o,f,ap⟩:=t;dsimp only at hz ⊢;split at hz
 ·rename_i hc;rw [yac,yac] at hc;obtain ⟨x,h3,hz⟩:=zaA hz;obtain ⟨j,h4,hz⟩:=zaA hz;obtain ⟨fo,h5,hz⟩:=zaA hz;cases hz;have e3:=zi0 h3;clear h3;subst e3;obtain ⟨s1,s2,s3,s4⟩:=g.slot h4;refine ⟨rfl,zpo s1 s2 s3 s4 g.u16 g.same (g.gok.fk _ _ hc.2) (zaB hs g h5).1 ?_ (fun _ _=>rfl)⟩
  cases o<;>first | rfl | cases hc.1.1
 ·cases hz
def zzG(hp:args.all zbq=true)(hl:args.length<30):methodCallForm (args.length+0) (backTo pos (starEach args env)) (backToKw pos (keywordEach [] env))=true:=by
 have h:=zbw (pos:=pos) (env:=env) hp;unfold methodCallForm
 have h1:(backTo pos (starEach args env)).all (!·.1)=true:=by
  rw [List.all_eq_not_any_not];simpa using h
 rw [h1];show (true&&true&&decide (args.length+0+0<30))=true;rw [yaB (by omega)];rfl
def zle(hb:attributeBase o m env (eval o env)=eval o env)(hf:methodCallForm (args.length+0) (backTo pos (starEach args env)) (backToKw pos (keywordEach [] env))=true)(hp:(ap.endLine == pos.line)=true) :
  eval (.Call (.Attribute o m ap) args [] pos) env=(do
   let ov ← eval o env
   standAt ap.atName
   let (f,first) ← holding [ov] (getMethod ov m (do return (← importBound o env).getD true))
   callWith pos f first (backTo pos (starEach args env)) (backToKw pos (keywordEach [] env))):=by
 show (do
  let ov ← attributeBase o m env (eval o env)
  standAt ap.atName
  methodCall o m ap pos env ov (args.length+0) (backTo pos (starEach args env)) (backToKw pos (keywordEach [] env)))=_
 rw [hb]
 have e:∀ov,methodCall o m ap pos env ov (args.length+0) (backTo pos (starEach args env)) (backToKw pos (keywordEach [] env))=(do
   let (f,first) ← holding [ov] (getMethod ov m (do return (← importBound o env).getD true))
   callWith pos f first (backTo pos (starEach args env)) (backToKw pos (keywordEach [] env))):=fun ov=>by
  unfold methodCall calleeOf methodCallPos;rw [hf,hp];rfl
 simp only [e]
def zpY(hs:zbs cl G k rc)(g:Gx cl G k X nm N E)(h:zpZ G rc nm N o m ap pos args kws=some (w,fe)):(w=true->PE X (.Call (.Attribute o m ap) args kws pos) (tN cl E fe))/\PE X (.Call (.Attribute o m ap) args kws pos) (tE cl E fe):=by
 unfold zpZ at h;split at h
 ·rename_i hc;simp only [yac,yaZ] at hc;obtain ⟨⟨⟨z1,z2⟩,z3⟩,z4⟩:=hc;obtain rfl:=ybG.mp z1;obtain ⟨⟨c,fi⟩,h1,h⟩:=zaA h;dsimp only at h;split at h
  ·rename_i hl;obtain ⟨fo,h2,h⟩:=zaA h;obtain ⟨fs,h3,h⟩:=zaA h;cases h;obtain ⟨f,fd,ps,c1,c2,c3,c4⟩:=g.gok.mt m c fi h1;obtain ⟨a1,a2,a3⟩:=zeT hs g h3
   have hlen:fs.length+1=fi.ar:=by rw [a3];exact hl
   have hb:attributeBase o m X.env (eval o X.env)=eval o X.env:=by
    unfold zob at z2
    split at z2<;>first | rfl | cases z2
   have ht:=zle (ap:=ap) hb (zzG (pos:=pos) a2 z4) z3
   have main:PE X (.Call (.Attribute o m ap) args [] pos) (zgN (cl c) m (zgQ cl fi.ar fi.own fi.run) [] E (tE cl E fo) (tAs cl E fs)):=by
    cases args with
    | nil =>
     cases h3;refine PE.imp (zkZ (zaB hs g h2).1 c1 c2 c4 g.room c3 .nil g.pass ht) ?_;rintro σ H Q ⟨B,w,ρ,S,rfl,R,q⟩;refine ⟨B,w,ρ,S,rfl,R,?_⟩
     cases hfo:fo ρ S with
     | bad=>rwa [hfo] at q
     | exc c S1=>rwa [hfo] at q
     | ok d S1 =>
      rw [hfo] at q;intro v w1 R1 F1 sh;obtain ⟨a,dx,fs,e1,e2,e3,B',w',ρ',S',e4,R',q⟩:=q v w1 R1 F1 sh;refine ⟨a,dx,fs,e1,e2,e3,?_⟩;have:=q [] w' R' (Fut.refl _) .nil;rwa [e4] at this
    | cons e es =>
     rw [ybJ,yac] at a2;exact zmS (zaB hs g h2).1 c1 c2 c4 g.room c3 .nil g.pass a1 (zaN a2.1) (zbw a2.2) ht
   cases ho:fi.own with
   | false =>
    rw [ho] at main;exact ⟨(fun z=>by cases z),PE.imp main fun _ _ _ q=>zsJ q hlen⟩
   | true =>
    rw [ho] at main;have n:=PE.imp main fun _ _ _ q=>zsI q hlen
    exact ⟨fun _=>n,zcA n⟩
  ·cases h
 ·cases h
def zuZ(hs:zbs cl G k rc)(g:Gx cl G k X nm N E)(h:mkG G rc nm N x args=some (w,fe)):w=false/\PE X (.Call (.Name x p) args [] pos) (tE cl E fe):=by
 unfold mkG at h;split at h
 ·rename_i hc;rw [yac] at hc;obtain ⟨⟨dds,fi⟩,h1,h⟩:=zaA h;obtain ⟨fs,h2,h⟩:=zaA h;dsimp only at h;obtain ⟨f,fd,ps,dvs,ds,k',hk,mC,M,B0,BD,vd,sd,F⟩:=g.gok.mks x dds fi h1;obtain ⟨a1,a2,a3⟩:=zeT hs g h2;obtain ⟨g1,g2,g3⟩:=g.glob hc.1
  cases args with
  | nil=>cases hc.2
  | cons e es =>
   rw [ybJ,yac] at a2;have hr:Room (k'+1) X.A:=g.room.mono hk;split at h
   ·rename_i hl;cases h;exact ⟨rfl,PE.imp (ziO M F hr g1 mC B0 .nil g.pass a1 g2 (zaN a2.1) (zbw a2.2)) fun _ _ _ q=>zwU (dds:=[]) (fun _=>.nil) q (by rw [a3];exact hl)⟩
   ·split at h
    ·rename_i hl;cases h;exact ⟨rfl,PE.imp (ziO M F hr g1 mC BD vd g.pass a1 g2 (zaN a2.1) (zbw a2.2)) fun _ _ _ q=>zwU sd q (by rw [a3];exact hl)⟩
    ·cases h
 ·cases h
end
noncomputable def zsG:Expr->Option Str | .Name x _=>some x | _=>none
noncomputable def zvl(df:Bool):Option NameKind->Bool | some .local=>true | some .cell=>df | _=>false
def tgI(df:Bool)(nm:Names)(N:List Str)(n:Nat)(x:Str):Option Nat:=if zvl df (nm.lookup x) then (idx N x).bind fun i=>if i<n then some i else none else none
def zqT(df:Bool)(nm:Names)(N:List Str)(n:Nat):List Expr->Option (List Nat)
 | []=>some []
 | .Name x _::es=>(tgI df nm N n x).bind fun i=>(zqT df nm N n es).bind fun is=>some (i::is)
 | _::_=>none
def tgG(df:Bool)(nm:Names)(N:List Str)(n:Nat):Expr->Option Tg
 | .Name x _=>(tgI df nm N n x).map .one
 | .Tuple es _ _=>(zqT df nm N n es).map .tup
 | _=>none
structure Sto'(X:Cx)(nm:Names)(df:Bool):Prop where
 fn:df=true->∀x,nm.lookup x=some .cell->X.fn x=true
section
variable{cl:Cf}{G:Genv}{k:Nat}{X:Cx}{nm:Names}{N:List Str}{E:St->XK}{df:Bool}{n:Nat}
def zdy(g:Gx cl G k X nm N E)(sd:Sto' X nm df)(h:tgI df nm N n x=some i):i<n/\X.N.Nodup/\X.N[i]?=some x/\Loc X.env.scope x/\(X.fn x=true\/X.env.scope.names.lookup x=some .local):=by
 unfold tgI at h;split at h
 ·rename_i hl
  cases hi:idx N x with
  | none=>rw [hi] at h;cases h
  | some j =>
   rw [hi] at h;dsimp only [Option.bind] at h;split at h
   ·rename_i hn;cases h;refine ⟨hn,by rw [g.eN];exact g.nd,by rw [g.eN];exact zgl hi,?_,?_⟩
    ·cases hk:nm.lookup x with
     | none=>rw [hk] at hl;cases hl
     | some kd =>
      obtain ⟨kd',e,z⟩:=g.vis x kd hk;rw [hk] at hl;unfold L2.Loc;rw [e]
      rcases z with rfl | ⟨rfl,_⟩
      ·cases kd'<;>first | exact .inl rfl | exact .inr rfl | cases hl
      ·cases hl
    ·cases hk:nm.lookup x with
     | none=>rw [hk] at hl;cases hl
     | some kd =>
      rw [hk] at hl
      cases kd<;>first | exact .inr (g.fnx x hk) | exact .inl (sd.fn hl x hk) | cases hl
   ·cases h
 ·cases h
theorem zko(g:Gx cl G k X nm N E)(sd:Sto' X nm df):∀{es:List Expr} {is:List Nat},zqT df nm N n es=some is->PGs X es (tGs cl n is)/\(assignEach es X.env).length=is.length/\(assignEach es X.env).findIdx? (·.1)=none
 | [],is,h=>by cases h;exact ⟨zpg,rfl,rfl⟩
 | e::es,is,h=>by
  cases e with
  | Name x pos =>
   unfold zqT at h
   cases h1:tgI df nm N n x with
   | none=>rw [h1] at h;cases h
   | some i =>
    rw [h1] at h
    cases h2:zqT df nm N n es with
    | none=>rw [h2] at h;cases h
    | some is' =>
     rw [h2] at h;cases h;obtain ⟨a1,a2,a3,a4,a5⟩:=zdy g sd h1;obtain ⟨b1,b2,b3⟩:=zko g sd h2;refine ⟨zmu a1 a2 a3 a4 a5 b1,?_,?_⟩
     ·show (assignEach es X.env).length+1=_;rw [b2];rfl
     ·show ((false,assign (.Name x pos) X.env)::assignEach es X.env).findIdx? (·.1)=none;rw [List.findIdx?_cons];simp [b3]
  | _=>cases h
def zoQ(g:Gx cl G k X nm N E)(sd:Sto' X nm df)(h:tgG df nm N n tg=some t):PG X tg (tG cl n t):=by
 unfold tgG at h;split at h
 ·rename_i x pos
  cases h1:tgI df nm N n x with
  | none=>rw [h1] at h;cases h
  | some i =>
   rw [h1] at h;cases h;obtain ⟨a1,a2,a3,a4,a5⟩:=zdy g sd h1;exact zrD a1 a2 a3 a4 a5
 ·rename_i es kk pos
  cases h1:zqT df nm N n es with
  | none=>rw [h1] at h;cases h
  | some is =>
   rw [h1] at h;cases h;obtain ⟨b1,b2,b3⟩:=zko g sd h1;exact zrC g.calm b1 b2 b3
 ·cases h
end
def za5:Expr->List Str
 | .Name x _=>[x]
 | .Tuple es _ _=>es.filterMap zsG
 | _=>[]
def zbf(names:Names)(N:List Str):List (Str×Nat):=names.filterMap fun p=>if p.2=.free then (idx N p.1).map fun i=>(p.1,i) else none
noncomputable def zzx:Option NameKind->Bool | some .cell=>true | some .free=>true | _=>false
def zlW(nm:Names)(scope:Scope)(xs:List Str)(caps:List (Str×Nat)):Bool :=
 decide (scope.kind=.function)&&decide ((scope.names.map (·.1)).Nodup)&&scope.names.all (fun y=>!decide (y.2=.local)||decide (scope.names.lookup y.1=some .local))
 && scope.names.all (fun y=>!decide (y.2=.free)||zzx (nm.lookup y.1))&&caps.all (fun p=>scope.names.all fun z=>!decide (z.1=p.1)||decide (z.2=.free))&&decide ((xs++caps.map (·.1)).Nodup)
def znL(rc:Rec)(nm:Names)(N:List Str):List Expr->Option Fe
 | []=>some zdE
 | [c]=>if zbt c then shE rc nm N c else none
 | _=>none
def zj2(G:Genv)(rc:Rec)(nm:Names)(N:List Str)(elt:Expr)(g:Comprehension)(scope:Scope):Option Fe :=
 if decide (g.is_async=0)&&zlW nm scope (za5 g.target) (zbf scope.names N) then
  (zjU G rc nm N g.target g.iter).bind fun it =>
  (tgG true scope.names (za5 g.target++(zbf scope.names N).map (·.1)) (za5 g.target).length g.target).bind fun t =>
  (znL rc scope.names (za5 g.target++(zbf scope.names N).map (·.1)) g.ifs).bind fun c =>
  (shE rc scope.names (za5 g.target++(zbf scope.names N).map (·.1)) elt).bind fun el =>
  some (zca (za5 g.target).length t it c el ((zbf scope.names N).map (·.2)))
 else none
theorem zdH{scope:Scope}{env:PySem.Env}:∀{names:Names} {x:Str} {kd:NameKind},names.lookup x=some kd →
  ∃kd',(names.map fun (n,k)=>if (k == NameKind.free&&env.scope.kind == .function&&env.kindOf n == some .cell) then (n,NameKind.cell) else (n,k)).lookup x=some kd'/\(kd'=kd\/(kd=.free/\kd'=.cell))
 | [],_,_,h=>by cases h
 | (n,k0)::r,x,kd,h=>by
  rw [yaz] at h;rw [yav];dsimp only
  by_cases hc:(k0 == NameKind.free&&env.scope.kind == .function&&env.kindOf n == some .cell)=true
  ·rw [if_pos hc,yaz]
   cases hx:x == n with
   | true =>
    rw [hx] at h;cases h;simp only [yac,ycq] at hc;exact ⟨_,rfl,.inr ⟨hc.1.1,rfl⟩⟩
   | false=>rw [hx] at h;exact zdH (scope:=scope) h
  ·rw [if_neg hc,yaz]
   cases hx:x == n with
   | true=>rw [hx] at h;cases h;exact ⟨_,rfl,.inl rfl⟩
   | false=>rw [hx] at h;exact zdH (scope:=scope) h
section
variable{cl:Cf}{G:Genv}{k:Nat}{rc:Rec}{X:Cx}{nm:Names}{N:List Str}{E:St->XK}
def zj1(g:Gx cl G k X nm N E)(h:zlW nm scope xs (zbf scope.names N)=true):CompScopeG X.env.scope scope X.N xs (zbf scope.names N)/\(xs++(zbf scope.names N).map (·.1)).Nodup:=by
 unfold zlW at h;simp only [yac,ybl,yaZ,ycQ,yb1,ycl] at h;obtain ⟨⟨⟨⟨⟨h1,h2⟩,h3⟩,h4⟩,h5⟩,h6⟩:=h
 have fr:∀y∈scope.names,y.2=.free->X.env.scope.names.lookup y.1=some .cell\/X.env.scope.names.lookup y.1=some .free:=fun y hy hf=>by
  rcases h4 y hy with z | z
  ·exact absurd hf z
  ·cases hk:nm.lookup y.1 with
   | none=>rw [hk] at z;cases z
   | some kd =>
    obtain ⟨kd',e,zz⟩:=g.vis y.1 kd hk;rw [hk] at z;rw [e]
    rcases zz with rfl | ⟨_,rfl⟩
    ·cases kd'<;>first | exact .inl rfl | exact .inr rfl | cases z
    ·exact .inl rfl
 refine ⟨⟨h2,h1,fun y hy hl=>(h3 y hy).elim (fun z=>absurd hl z) fun z=>z,fr,fun p hp=>?_,fun p hp z hz e=>(h5 p hp z hz).elim (fun w=>absurd e w) fun w=>w⟩,h6⟩;unfold zbf at hp;obtain ⟨q,hq,e⟩:=ybV.mp hp;split at e
 ·rename_i hf
  cases hi:idx N q.1 with
  | none=>rw [hi] at e;cases e
  | some i =>
   rw [hi] at e;have e':(q.1,i)=p:=Option.some.inj e;subst e';refine ⟨by rw [g.eN];exact zgl hi,by rw [<-hf];exact hq,?_⟩
   rcases fr q hq hf with z | z<;>rw [z]<;>exact fun w=>by cases w
 ·cases e
def zgk(g:Gx cl G k X nm N E)(hn:(xs++(zbf scope.names N).map (·.1)).Nodup)(cl':List (Str×Addr))(C:Addr)(s:Shared)(H:Hp)(fp:List Addr) :
  Gx cl G k (zba X xs (zbf scope.names N) scope cl' C s H fp) scope.names (xs++(zbf scope.names N).map (·.1)) noE where
 gok:=g.gok
 room:=g.room
 calm:=g.calm
 pass:=fun pins σ H s e s' I q=>by
  obtain ⟨a,cls,a0,H',B,_,_,_,_,_,_,_,_,_,z⟩:=q;exact z.elim
 eN:=rfl
 kk:=g.kk
 pp:=g.pp
 ww:=g.ww
 nd:=hn
 vis:=fun x kd h=>zdH (scope:=scope) h
 fnx:=fun x h=>lookup_relabel_local h
def zqx(hs:zbs cl G k rc)(g:Gx cl G k X nm N noE)(h:znL rc nm N ifs=some c):PIf X ifs (tTr cl noE c):=by
 unfold znL at h;split at h
 ·cases h;intro pins s σ H Q I q;obtain ⟨B,w,ρ,S,rfl,R,q⟩:=q;exact zpB pins s σ w.H Q I (q w R (Fut.refl _))
 ·split at h
  ·rename_i c ht;obtain ⟨_,a2,_⟩:=zaB hs g h;exact zpA (a2 ht)
  ·cases h
 ·cases h
def zfS(hs:zbs cl G k rc)(g:Gx cl G k X nm N E)(h:zj2 G rc nm N elt gg scope=some f) :
  ∃it t c el,f=zca (za5 gg.target).length t it c el ((zbf scope.names N).map (·.2))/\gg=⟨gg.target,gg.iter,gg.ifs,0⟩/\CompScopeG X.env.scope scope X.N (za5 gg.target) (zbf scope.names N)/\PI X gg.target gg.iter (tI cl E it)/\okE gg.iter=true ∧
   (∀cl' C s H fp,PG (zba X (za5 gg.target) (zbf scope.names N) scope cl' C s H fp) gg.target (tG cl (za5 gg.target).length t)) ∧
   (∀cl' C s H fp,PIf (zba X (za5 gg.target) (zbf scope.names N) scope cl' C s H fp) gg.ifs (tTr cl noE c)) ∧
   ∀cl' C s H fp,PE (zba X (za5 gg.target) (zbf scope.names N) scope cl' C s H fp) elt (tE cl noE el):=by
 unfold zj2 at h;split at h
 ·rename_i hc;rw [yac] at hc;obtain ⟨S,hn⟩:=zj1 g hc.2
  cases h1:zjU G rc nm N gg.target gg.iter with
  | none=>rw [h1] at h;cases h
  | some it =>
   rw [h1] at h;dsimp only [Option.bind] at h
   cases h2:tgG true scope.names (za5 gg.target++(zbf scope.names N).map (·.1)) (za5 gg.target).length gg.target with
   | none=>rw [h2] at h;cases h
   | some t =>
    rw [h2] at h;dsimp only at h
    cases h3:znL rc scope.names (za5 gg.target++(zbf scope.names N).map (·.1)) gg.ifs with
    | none=>rw [h3] at h;cases h
    | some c =>
     rw [h3] at h;dsimp only at h
     cases h4:shE rc scope.names (za5 gg.target++(zbf scope.names N).map (·.1)) elt with
     | none=>rw [h4] at h;cases h
     | some el =>
      rw [h4] at h;cases h;obtain ⟨i1,i2⟩:=zly hs g (tg:=gg.target) h1;refine ⟨it,t,c,el,rfl,?_,S,i1,i2,fun cl' C s H fp=>zoQ (zgk g hn cl' C s H fp) ⟨fun _ x hx=>yaB hx⟩ h2,fun cl' C s H fp=>zqx hs (zgk g hn cl' C s H fp) h3,fun cl' C s H fp=>(zaB hs (zgk g hn cl' C s H fp) h4).1⟩;have:=yaq hc.1;cases gg;simp only at this;rw [this]
 ·cases h
def zlU(hs:zbs cl G k rc)(g:Gx cl G k X nm N E)(h:zj2 G rc nm N elt gg scope=some f):PE X (.ListComp elt [gg] scope pos) (tN cl E f):=by
 obtain ⟨it,t,c,el,rfl,eg,S,i1,i2,i3,i4,i5⟩:=zfS hs g h;rw [eg];exact PE.imp (zmW g.calm S i1 i3 i4 i5 (zgd i2)) fun _ _ _ q=>zoH q
end
noncomputable def zxR:Expr->Bool | .Slice _ _ _ _=>false | _=>true
def ztL(rc:Rec)(nm:Names)(N:List Str):Option Expr->Option (Option Fe)
 | none=>some none
 | some e=>(opE rc nm N e).map some
def zwT(m:Str):Option (List D->D->Option D):=if m = "count" then some zd5 else none
def zlS:∀(l:List D) (d r:D),zd5 l d=some r->∃n,r=.int n:=by
 intro l d r h;unfold zd5 at h;split at h
 ·cases h;exact ⟨_,rfl⟩
 ·cases h
def unG(rc:Rec)(nm:Names)(N:List Str)(a:Expr):UnaryOp->Option (Bool×Fe)
 | .Not=>if zbt a then (shE rc nm N a).map fun f=>(false,eUn zet f) else none
 | .USub=>(opE rc nm N a).map fun f=>(false,eUn zop f)
 | _=>none
def ztj(rc:Rec)(nm:Names)(N:List Str)(a:Expr):List CmpOp->List Expr->Option (Bool×Fe)
 | [op],[b]=>(ztk op b).bind fun g=>(opE rc nm N a).bind fun f=>(opE rc nm N b).bind fun h=>some (false,zaf g f h)
 | [op,op'],[b,c]=>(ztk op b).bind fun g=>(ztk op' c).bind fun g'=>(opE rc nm N a).bind fun f=>(opE rc nm N b).bind fun h=>(opE rc nm N c).bind fun k=>some (false,zcT g g' f h k)
 | _,_=>none
def zwK(rc:Rec)(nm:Names)(N:List Str)(a:Expr):Expr->Option (Bool×Fe)
 | .Slice lo hi none _=>(opE rc nm N a).bind fun f=>(ztL rc nm N lo).bind fun l=>(ztL rc nm N hi).bind fun u=>some (false,eSl f l u)
 | i=>if zxR i then (opE rc nm N a).bind fun f=>(opE rc nm N i).bind fun h=>some (false,zaf ixD f h) else none
def zxW(rc:Rec)(nm:Names)(N:List Str)(x m:Str)(ap cp:Pos):List Expr->List Keyword->Option (Bool×Fe)
 | [a],[]=>if ap.endLine == cp.line then (zbU nm N x).bind fun i=>(opE rc nm N a).bind fun f=>if decide (m = "index") then some (false,zlO i f) else (zwT m).bind fun g=>some (false,eMt g i f) else none
 | [a,b],[]=>if decide (m = "get")&&(ap.endLine == cp.line) then (zbU nm N x).bind fun i=>(shE rc nm N a).bind fun f=>(shE rc nm N b).bind fun h=>some (false,zhy i f h) else none
 | _,_=>none
def zoJ(G:Genv)(rc:Rec)(nm:Names)(N:List Str)(args:List Expr)(kws:List Keyword)(cp:Pos):Expr->Option (Bool×Fe)
 | .Attribute o m ap=>(match (nmF o).bind fun x=>zxW rc nm N x.1 m ap cp args kws with | some p=>some p | none=>zpZ G rc nm N o m ap cp args kws)
 | .Name x _=>if kws.isEmpty then (match mkG G rc nm N x args with | some p=>some p | none=>(match spG G rc nm N x args with | some p=>some p | none=>zqF G rc nm N x args)) else none
 | _=>none
def lcG(G:Genv)(rc:Rec)(nm:Names)(N:List Str)(elt:Expr)(scope:Scope):List Comprehension->Option (Bool×Fe)
 | [g]=>(zj2 G rc nm N elt g scope).map fun f=>(true,f)
 | _=>none
def za9(G:Genv)(rc:Rec):Rec:=fun nm N e=>match e with
 | .Constant c _ _=>(zxU c).map fun d=>(false,zae d)
 | .Name x _=>(match zbU nm N x with
  | some i=>some (false,zad i)
  | none=>if zbP nm x then (G.con x).map fun d=>(false,zae d) else none)
 | .Tuple es _ _=>(shL rc nm N es).map fun fs=>(false,zdd fs)
 | .List es _=>(shL rc nm N es).map fun fs=>(true,zfn fs)
 | .BinOp a op b _=>if zqg a&&zs2 op then (opE rc nm N a).bind fun f=>(opE rc nm N b).bind fun h=>some (true,zaf zjN f h) else (zvD op).bind fun g=>(opE rc nm N a).bind fun f=>(opE rc nm N b).bind fun h=>some (false,zaf g f h)
 | .UnaryOp op a _=>unG rc nm N a op
 | .BoolOp op es _=>(zj6 rc nm N op es).map fun f=>(false,f)
 | .Compare a ops bs _=>(match zuX G rc nm N a ops bs with | some p=>some p | none=>ztj rc nm N a ops bs)
 | .IfExp c a b _=>if zbt c then (shE rc nm N c).bind fun g=>(shE rc nm N a).bind fun f=>(shE rc nm N b).bind fun h=>some (false,eIf g f h) else none
 | .Subscript a i _=>(match zvr G rc nm N a i with | some p=>some p | none=>zwK rc nm N a i)
 | .Attribute o f _=>zvu G rc nm N o f
 | .Call f args kws cp=>zoJ G rc nm N args kws cp f
 | .ListComp elt gs scope _=>lcG G rc nm N elt scope gs
 | .Dict [] [] _=>some (true,znF)
 | _=>none
noncomputable def zvy(G:Genv):Nat->Rec
 | 0=>fun _ _ _=>none
 | n+1=>za9 G (zvy G n)
section
variable{cl:Cf}{G:Genv}{k:Nat}{rc:Rec}
def znl(h:zxR i=true):zgD i:=by
 intro o j
 cases i<;>first | rfl | cases h
def zaa{α β:Type}{o:Option α}{f:α->Option β}{b:β}(h:o.bind f=some b):∃a,o=some a/\f a=some b:=by
 cases o with
 | none=>cases h
 | some a=>exact ⟨a,rfl,h⟩
def zaP{α β:Type}{o:Option α}{f:α->β}{b:β}(h:o.map f=some b):∃a,o=some a/\f a=b:=by
 cases o with
 | none=>cases h
 | some a=>exact ⟨a,rfl,Option.some.inj h⟩
def ziQ(hs:zbs cl G k rc)(g:Gx cl G k X nm N E)(h:ztL rc nm N o=some f):PO X o (ztH cl E f):=by
 unfold ztL at h;split at h
 ·cases h;exact zpy
 ·obtain ⟨a,h1,rfl⟩:=zaP h;exact zpx (zcc hs g h1).1
def znJ(hs:zbs cl G k rc):zbs cl G k (za9 G rc):=by
 intro X nm N E g e o f h;cases e
 case Constant =>
  unfold za9 at h;dsimp only at h;obtain ⟨d,h1,h2⟩:=zaP h;cases h2;rename_i c kk pos
  have p:PE X (.Constant c kk pos) (tE cl E (zae d)):=by
   cases c<;>simp [zxU] at h1<;>subst h1
   ·exact zkF zsd fun w=>.non
   ·exact zkF zuO fun w=>.bl _
   ·exact zkF zsf fun w=>.int _
   ·exact zkF zr8 fun w=>.str _
  exact ⟨(fun z=>by cases z),p,fun _=>zbb p (fun _=>rfl),rfl⟩
 case Name =>
  unfold za9 at h;dsimp only at h;rename_i x pos;split at h
  ·rename_i i hi;cases h;obtain ⟨h1,h2,h3,h4⟩:=g.slot hi;have p:PE X (.Name x pos) (tE cl E (zad i)):=zrE h1 h2 h3 h4;exact ⟨(fun z=>by cases z),p,fun _=>zbb p (fun _=>rfl),rfl⟩
  ·split at h
   ·rename_i hg;obtain ⟨d,h1,h2⟩:=zaP h;cases h2;obtain ⟨g1,g2,g3⟩:=g.glob hg;obtain ⟨v,u,m,r,sh⟩:=g.gok.con x d h1;have p:PE X (.Name x pos) (tE cl E (zae d)):=zkF (zpD g1 m r g2) sh;exact ⟨(fun z=>by cases z),p,fun _=>zbb p (fun _=>rfl),rfl⟩
   ·cases h
 case Tuple =>
  unfold za9 at h;dsimp only at h;obtain ⟨fs,h1,h2⟩:=zaP h;cases h2;rename_i es kk pos;have p:PE X (.Tuple es kk pos) (tE cl E (zdd fs)):=zrF (zeT hs g h1).1;exact ⟨(fun z=>by cases z),p,fun _=>zbb p (fun _=>rfl),rfl⟩
 case List =>
  unfold za9 at h;dsimp only at h;obtain ⟨fs,h1,h2⟩:=zaP h;cases h2;rename_i es pos;have p:PE X (.List es pos) (tN cl E (zfn fs)):=zrJ (zeT hs g h1).1;exact ⟨fun _=>p,zcA p,fun _=>zbb (zcA p) (fun _=>rfl),rfl⟩
 case BinOp =>
  unfold za9 at h;dsimp only at h;split at h
  ·rename_i a op b pos hm;obtain ⟨fa,h2,h⟩:=zaa h;obtain ⟨fb,h3,h⟩:=zaa h;cases h;rw [yac] at hm
   have ho:op=.Mult:=by cases op<;>first | rfl | cases hm.2
   subst ho;have p:PE X (.BinOp a .Mult b pos) (tN cl E (zaf zjN fa fb)):=zpl (zcc hs g h2).1 (zcc hs g h3).1;exact ⟨fun _=>p,zcA p,fun _=>zbb (zcA p) (fun _=>rfl),rfl⟩
  obtain ⟨gg,h1,h⟩:=zaa h;obtain ⟨fa,h2,h⟩:=zaa h;obtain ⟨fb,h3,h⟩:=zaa h;cases h;exact ⟨(fun z=>by cases z),zn9 (zoK h1) (zcc hs g h2).1 (zcc hs g h3).1,fun _=>zbb (zn9 (zoK h1) (zcc hs g h2).1 (zcc hs g h3).1) (fun _=>rfl),rfl⟩
 case UnaryOp =>
  unfold za9 at h;dsimp only at h;rename_i op a pos;unfold unG at h;split at h
  ·split at h
   ·rename_i ht;obtain ⟨fa,h1,h2⟩:=zaP h;cases h2;obtain ⟨a1,a2,_⟩:=zaB hs g h1;exact ⟨(fun z=>by cases z),zrH a1,fun _=>zrm (a2 ht),rfl⟩
   ·cases h
  ·obtain ⟨fa,h1,h2⟩:=zaP h;cases h2;have p:PE X (.UnaryOp .USub a pos) (tE cl E (eUn zop fa)):=zuz zq4 (zcc hs g h1).1;exact ⟨(fun z=>by cases z),p,fun _=>zbb p (fun _=>rfl),rfl⟩
  ·cases h
 case BoolOp =>
  unfold za9 at h;dsimp only at h;obtain ⟨fa,h1,h2⟩:=zaP h;cases h2;rename_i op es pos;obtain ⟨b1,b2⟩:=zl6 hs g (pos:=pos) h1;exact ⟨(fun z=>by cases z),b1,fun _=>b2.pt,rfl⟩
 case Compare =>
  unfold za9 at h;dsimp only at h;rename_i a ops bs pos;split at h
  ·rename_i p hp;obtain ⟨w,fe⟩:=p;cases h;obtain ⟨rfl,n1,n2⟩:=zsD hs g (pos:=pos) hp;exact ⟨(fun z=>by cases z),n1,fun _=>n2,rfl⟩
  unfold ztj at h;split at h
  ·obtain ⟨gg,h1,h⟩:=zaa h;obtain ⟨fa,h2,h⟩:=zaa h;obtain ⟨fb,h3,h⟩:=zaa h;cases h;obtain ⟨a1,_⟩:=zcc hs g h2;obtain ⟨b1,b2⟩:=zcc hs g h3;exact ⟨(fun z=>by cases z),zrL (zfT g h1) a1 b1 (ze3 b2),fun _=>zro (zfT g h1) a1 b1 (ze3 b2),rfl⟩
  ·obtain ⟨gg,h1,h⟩:=zaa h;obtain ⟨gg',h1',h⟩:=zaa h;obtain ⟨fa,h2,h⟩:=zaa h;obtain ⟨fb,h3,h⟩:=zaa h;obtain ⟨fc,h4,h⟩:=zaa h;cases h;obtain ⟨a1,_⟩:=zcc hs g h2;obtain ⟨b1,_⟩:=zcc hs g h3;obtain ⟨c1,c2⟩:=zcc hs g h4;have hm:∀{op op':CmpOp} {b c:Expr},okE c=true->lastMarks [op,op'] [b,c]=false:=fun h=>ze3 h
   exact ⟨(fun z=>by cases z),zmx (zfT g h1) (zfT g h1') a1 b1 c1 (hm c2),fun _=>zmq (zfT g h1) (zfT g h1') a1 b1 c1 (hm c2),rfl⟩
  ·cases h
 case IfExp =>
  unfold za9 at h;dsimp only at h;split at h
  ·rename_i c a b pos ht;obtain ⟨fc,h1,h⟩:=zaa h;obtain ⟨fa,h2,h⟩:=zaa h;obtain ⟨fb,h3,h⟩:=zaa h;cases h;obtain ⟨_,c2,_⟩:=zaB hs g h1;exact ⟨(fun z=>by cases z),zuE (c2 ht) (zaB hs g h2).1 (zaB hs g h3).1,(fun z=>by cases z),rfl⟩
  ·cases h
 case Subscript =>
  unfold za9 at h;dsimp only at h;rename_i a i pos;split at h
  ·rename_i p hp;obtain ⟨w,fe⟩:=p;cases h;obtain ⟨rfl,n1⟩:=zs6 hs g (pos:=pos) hp;exact ⟨(fun z=>by cases z),n1,fun _=>zbb n1 (fun _=>rfl),rfl⟩
  unfold zwK at h;split at h
  ·obtain ⟨fa,h1,h⟩:=zaa h;obtain ⟨fl,h2,h⟩:=zaa h;obtain ⟨fu,h3,h⟩:=zaa h;cases h;exact ⟨(fun z=>by cases z),zrG (zcc hs g h1).1 (ziQ hs g h2) (ziQ hs g h3),fun _=>zbb (zrG (zcc hs g h1).1 (ziQ hs g h2) (ziQ hs g h3)) (fun _=>rfl),rfl⟩
  ·split at h
   ·rename_i hix;obtain ⟨fa,h1,h⟩:=zaa h;obtain ⟨fb,h2,h⟩:=zaa h;cases h;have p:PE X (.Subscript a _ pos) (tE cl E (zaf ixD fa fb)):=zuD (zvn g.kk) (zcc hs g h1).1 (zcc hs g h2).1 (znl hix);exact ⟨(fun z=>by cases z),p,fun _=>zbb p (fun _=>rfl),rfl⟩
   ·cases h
 case Attribute =>
  unfold za9 at h;dsimp only at h;rename_i o fl pos;obtain ⟨rfl,n1⟩:=zta hs g (pos:=pos) h;exact ⟨(fun z=>by cases z),n1,fun _=>zbb n1 (fun _=>rfl),rfl⟩
 case Call =>
  unfold za9 at h;dsimp only at h;rename_i fn args kws cp;unfold zoJ at h;split at h
  ·rename_i o m ap;split at h
   rotate_left
   ·obtain ⟨a1,a2⟩:=zpY hs g (ap:=ap) (pos:=cp) h;exact ⟨a1,a2,fun _=>zbb a2 (fun _=>rfl),rfl⟩
   rename_i pp hpp;obtain ⟨⟨x,p⟩,e1,h2⟩:=zaa hpp;have e2:=zi0 e1;have h3:=h;cases h3;clear hpp e1;subst e2;replace h:=h2;clear h2;dsimp only at h ⊢;unfold zxW at h;split at h
   ·rename_i a;split at h
    ·rename_i hln;obtain ⟨i,h1,h⟩:=zaa h;obtain ⟨fa,h2,h⟩:=zaa h;split at h
     ·rename_i hix;have em:=yaq hix;cases h;subst em;obtain ⟨n1,n2,n3,n4⟩:=g.slot h1;obtain ⟨a1,a3⟩:=zcc hs g h2;have p:PE X (.Call (.Attribute (.Name x p) "index" ap) [a] [] cp) (tE cl E (zlO i fa)):=zpj g.kk (by have:=g.units;omega) n1 n2 n3 n4 a1 (zah a3) hln;exact ⟨(fun z=>by cases z),p,fun _=>zbb p (fun _=>rfl),rfl⟩
     obtain ⟨gg,h3,h⟩:=zaa h;cases h;obtain ⟨n1,n2,n3,n4⟩:=g.slot h1;obtain ⟨a1,a2⟩:=zcc hs g h2
     have p:PE X (.Call (.Attribute (.Name x p) m ap) [a] [] cp) (tE cl E (eMt gg i fa)):=by
      unfold zwT at h3;split at h3
      ·rename_i em;cases h3;subst em;exact zuB PySem.F.slot_list_count PySem.F.type_list_count (zna g.kk g.units) zlS n1 n2 n3 n4 a1 (zah a2) hln
      ·cases h3
     exact ⟨(fun z=>by cases z),p,fun _=>zbb p (fun _=>rfl),rfl⟩
    ·cases h
   ·rename_i a b;split at h
    ·rename_i hc;rw [yac] at hc;have em:=yaq hc.1;obtain ⟨i,h1,h⟩:=zaa h;obtain ⟨fa,h2,h⟩:=zaa h;obtain ⟨fb,h3,h⟩:=zaa h;cases h;subst em;obtain ⟨n1,n2,n3,n4⟩:=g.slot h1;obtain ⟨a1,a2,a3⟩:=zaB hs g h2;obtain ⟨b1,b2,b3⟩:=zaB hs g h3;have q:PE X (.Call (.Attribute (.Name x p) "get" ap) [a,b] [] cp) (tE cl E (zhy i fa fb)):=zpn g.same n1 n2 n3 n4 a1 b1 ⟨rfl,zfi (by simp [zah a3,zah b3]) (by simp),hc.2,by rw [zaN (zah a3),zaN (zah b3)];rfl⟩;exact ⟨(fun z=>by cases z),q,fun _=>zbb q (fun _=>rfl),rfl⟩
    ·cases h
   ·cases h
  ·rename_i x p;split at h
   ·rename_i hk
    have hk':kws=[]:=by simpa using hk
    subst hk';split at h
    ·rename_i pm hmk;obtain ⟨w,fe⟩:=pm;cases h;obtain ⟨rfl,n1⟩:=zuZ hs g (p:=p) (pos:=cp) hmk;exact ⟨(fun z=>by cases z),n1,fun _=>zbb n1 (fun _=>rfl),rfl⟩
    split at h
    ·rename_i hsp;cases h;obtain ⟨a1,a2⟩:=zux hs g (p:=p) (pos:=cp) hsp;exact ⟨a1,a2,fun _=>zbb a2 (fun _=>rfl),rfl⟩
    ·obtain ⟨a1,a2⟩:=zqE hs g (p:=p) (pos:=cp) h;exact ⟨a1,a2,fun _=>zbb a2 (fun _=>rfl),rfl⟩
   ·cases h
  ·cases h
 case ListComp =>
  unfold za9 at h;dsimp only at h;rename_i elt gs scope pos;unfold lcG at h;split at h
  ·obtain ⟨fa,h1,h2⟩:=zaP h;cases h2;rename_i gg;have p:PE X (.ListComp elt [gg] scope pos) (tN cl E f):=zlU hs g h1;exact ⟨fun _=>p,zcA p,fun _=>zbb (zcA p) (fun _=>rfl),rfl⟩
  ·cases h
 case Dict ks vs _ =>
  cases ks with
  | cons _ _=>cases h
  | nil =>
   cases vs with
   | cons _ _=>cases h
   | nil =>
    unfold za9 at h;dsimp only at h;rename_i pos;cases h;exact ⟨fun _=>zhZ g.same,zcA (zhZ g.same),fun _=>zbb (zcA (zhZ g.same)) (fun _=>rfl),rfl⟩
 all_goals cases h
theorem zoF:∀n,zbs cl G k (zvy G n)
 | 0=>fun _ _ _ _ _ _ _ _ h=>by cases h
 | n+1=>znJ (zoF n)
end
noncomputable def zmh(X:Cx)(E:St->XK):Prop:=∀(C:Addr) (pins:Z3) (σ:St) (H:Hp) (s:Shared) (e:Addr) (h':Heap) (vs:List Value),Inv X pins σ H s->Heap.MadeExcOf s.heap h' e (.ref C) vs->E σ (.ref C) none H->X.xe (.ref e) { s with heap:=h' }
noncomputable def zoV(C:Addr)(E:St->XK)(t:TA):TS:=fun _ σ H=>t σ H fun vs H1=>vs.length<=sizeLine/\E σ (.ref C) none H1
theorem zkS(hr:zmh X E)(hc:X.calm=true)(hg:Gl X x)(hm:X.mg x=some (.ref C))
  (z:PySem.W.excIn X.K C bmV "ValueError.__new__" = true) (ha:PA X (e::es) t)
  (he:starEach (e::es) X.env=(false,eval e X.env)::starEach es X.env) (hpl:(backTo cpos (starEach es X.env)).any (·.1)=false) (hdb:(x == ("__debug__":Str))=false) :
  PS X (.Raise (some (.Call (.Name x np) (e::es) [] cpos)) none pos) (zoV C E t):=by
 intro pins s σ H D I h;obtain ⟨bm,N,nm,qn,bs,hd,sn,sub,ab,col,dd,c0,c1,c2,c3,c5,mN,o1,o2,o3,o4⟩:=zqr I.mod.kin z
 refine wpAny_Raise_call_subU (C:=C) (nm:=nm) (q:=qn) (N:=N) (bs:=bs) (bm:=bm) (hdct:=hd) (sn:=sn) (sub:=sub) (ab:=ab) (col:=col) (dd:=dd) (k0:=c0) (k1:=c1) (k2:=c2) (k3:=c3) (k5:=c5)
  yb3 (by decide +kernel) yb3 (mN:=mN) (o4.hasType yb3.hasBase) (I.ok.hd hc) (by rw [he];show (false||(backTo cpos (starEach es X.env)).any (·.1))=false;rw [hpl];rfl) o3 (ze7 I hg hm ⟨rfl,?_⟩ hdb)
 have go:=ha cpos pins s σ H _ I h;rw [he] at go ⊢;exact yb4 (thn go fun us s2 ⟨vs,H2,I2,r2,q1,q2⟩=>⟨rfl,by rw [<-r2.length];exact q1,I2.bk _ _ o1,o2.keeps I2.bk,o4.keeps I2.bk,fun h' a mk=>hr C pins σ H2 s2 a h' us I2 mk q2⟩)
def sRz(c:Str)(fs:List Fe):Fs:=fun ρ S=>match zal fs ρ S with | .ok ds S'=>if zaH ds.length then .ex c ρ S' else .bad | .exc x S'=>.ex x ρ S' | .bad=>.bad
noncomputable def zzT(X:Cx)(pins:Z3)(E:St->XK):Cx:={ X with pn:=X.pn++pins,xe:=fun e s'=>∃σ H1 s1,Inv X pins σ H1 s1/\CXE X.prog X.w X.stack H1 s1 (E σ) e s' }
noncomputable def zzU(K:PySem.W.Frag)(C:Addr)(i:Nat)(th:TS)(De:Ends):St->XK:=fun σ cls _ H'=>∃C',cls=.ref C'/\zqR K C' C/\∀a ob,H' a=none->ob.cls=.ref C'->th (De.goes i) (σ.set i (some (.ref a))) (upd H' a (.frz ob (.own a)))
noncomputable def Base.hold(B:Base)(p:Addr)(o:HO):Base:=⟨fun a=>if a=p then some o else B.Fr a,fun a=>if a=p then some .far else B.fw a⟩
noncomputable def Wd.claim(w:Wd)(p:Addr)(r:Root):Wd:=⟨w.H,fun a=>if a=p then some r else if w.ow a=some r then some .far else w.ow a,w.mu⟩
section
variable{cl:Cf}{B:Base}{σ:St}{w:Wd}{ρ:Env}{S:Sto}
theorem Rel.hold(R:Rel cl B σ w ρ S)(hp:w.H p=none):Rel cl (B.hold p o) σ (w.addAs p o .far) ρ S:=by
 have ff:=zbx (w:=w) (p:=p) (o:=o) (r:=.far) hp
 have kp:∀a u,w.H a=some u->(w.addAs p o .far).H a=some u/\(w.addAs p o .far).ow a=w.ow a:=fun a u ha=>by
  have n:a≠p:=zav ha hp;refine ⟨?_,?_⟩
  ·show upd w.H p o a=_;rw [zao n];exact ha
  ·show (if a=p then _ else if w.ow a=some Root.far then some Root.far else w.ow a)=_;rw [if_neg n];split
   ·rename_i e;exact e.symm
   ·rfl
 refine ⟨⟨fun a u h=>?_,fun a r h=>?_,R.wd.len,fun n ob h=>?_⟩,R.len,fun j b e hj=>?_⟩
 ·by_cases ha:a=p
  ·subst ha;have h':(if a=a then some o else B.Fr a)=some u:=h;rw [if_pos rfl] at h';cases h';exact ⟨zay,by show (if a=a then some Root.far else _)=(if a=a then some Root.far else _);rw [if_pos rfl,if_pos rfl]⟩
  ·have h':(if a=p then some o else B.Fr a)=some u:=h;rw [if_neg ha] at h';have:=kp a u (R.wd.fr a u h').1;refine ⟨this.1,this.2.trans ?_⟩;show _=(if a=p then some Root.far else B.fw a);rw [if_neg ha];exact (R.wd.fr a u h').2
 ·by_cases ha:a=p
  ·have h':(if a=p then some Root.far else if w.ow a=some Root.far then some Root.far else w.ow a)=some r:=h;rw [if_pos ha] at h';cases h';exact .inl rfl
  ·have h':(if a=p then some Root.far else if w.ow a=some Root.far then some Root.far else w.ow a)=some r:=h;rw [if_neg ha] at h';split at h'
   ·cases h';exact .inl rfl
   ·rcases R.wd.own a r h' with z | z
    ·exact .inl z
    ·refine .inr ?_;show (if a=p then some o else B.Fr a)=none;rw [if_neg ha];exact z
 ·obtain ⟨a,e,x⟩:=R.wd.obj n ob h;exact ⟨a,e,x.keep ff fun b u hb _=>kp b u hb⟩
 ·obtain ⟨v,e1,x⟩:=R.slots j b e hj;exact ⟨v,e1,x.keep ff fun a u ha hr=>⟨(kp a u ha).1,(kp a u ha).2.trans hr⟩⟩
def Rel.unhold(R:Rel cl (B.hold p o) σ w ρ S)(hB:B.Fr p=none):Rel cl B σ w ρ S:=by
 refine ⟨⟨fun a u h=>?_,fun a r h=>?_,R.wd.len,R.wd.obj⟩,R.len,R.slots⟩
 ·have na:a≠p:=fun z=>by rw [z,hB] at h;cases h
  have h2:=R.wd.fr a u (show (if a=p then some o else B.Fr a)=some u by rw [if_neg na];exact h);exact ⟨h2.1,h2.2.trans (show (if a=p then some Root.far else B.fw a)=_ from if_neg na)⟩
 ·rcases R.wd.own a r h with z | z
  ·exact .inl z
  ·have z':(if a=p then some o else B.Fr a)=none:=z;split at z'
   ·cases z'
   ·exact .inr z'
def zfe(h:w.ow p≠none):Fut w (w.claim p r) where
 keep:=fun a u ha hk=>by
  have n:a≠p:=fun z=>h (by rw [<-z];exact hk)
  refine ⟨ha,?_⟩;show (if a=p then some r else if w.ow a=some r then some Root.far else w.ow a)=none;rw [if_neg n,if_neg (by rw [hk];exact fun z=>by cases z)];exact hk
 mu:=fun _ _ h=>h
theorem Rel.claim(R:Rel cl (B.hold p o) σ w ρ S)(hB:B.Fr p=none)(t:Top cl w o d):Rel cl B (σ.set i (some (.ref p))) (w.claim p (.slot i)) (ρ.set i (some (true,d))) S:=by
 have hp:=R.wd.fr p o (show (if p=p then some o else B.Fr p)=some o from if_pos rfl);have hfar:w.ow p=some .far:=hp.2.trans (show (if p=p then some Root.far else B.fw p)=_ from if_pos rfl);have ff:=zfe (w:=w) (p:=p) (r:=.slot i) (by rw [hfar];exact yaE _)
 have kp:∀a u,w.H a=some u->w.ow a≠some .far->w.ow a≠some (.slot i)->(w.claim p (.slot i)).H a=some u/\(w.claim p (.slot i)).ow a=w.ow a:=fun a u ha hk hk2=>by
  have n:a≠p:=fun z=>hk (by rw [z];exact hfar)
  refine ⟨ha,?_⟩;show (if a=p then _ else if w.ow a=some (Root.slot i) then some Root.far else w.ow a)=_;rw [if_neg n,if_neg hk2]
 refine ⟨⟨fun a u h=>?_,fun a r h=>?_,R.wd.len,fun n ob h=>?_⟩,by rw [yaL,yaL];exact R.len,fun j b e hj=>?_⟩
 ·have na:a≠p:=fun z=>by rw [z,hB] at h;cases h
  have h2:=R.wd.fr a u (show (if a=p then some o else B.Fr a)=some u by rw [if_neg na];exact h);have h3:w.ow a=B.fw a:=h2.2.trans (show (if a=p then some Root.far else B.fw a)=_ from if_neg na)
  have hne:w.ow a≠some (.slot i):=fun z=>by
   rcases R.wd.own a _ z with y | y
   ·cases y
   ·have y':(if a=p then some o else B.Fr a)=none:=y;rw [if_neg na,h] at y';cases y'
  refine ⟨h2.1,?_⟩;show (if a=p then some (Root.slot i) else if w.ow a=some (Root.slot i) then some Root.far else w.ow a)=_;rw [if_neg na,if_neg hne];exact h3
 ·have h':(if a=p then some (Root.slot i) else if w.ow a=some (Root.slot i) then some Root.far else w.ow a)=some r:=h;split at h'
  ·rename_i e;rw [e];exact .inr hB
  ·rename_i na;split at h'
   ·cases h';exact .inl rfl
   ·rcases R.wd.own a r h' with z | z
    ·exact .inl z
    ·have z':(if a=p then some o else B.Fr a)=none:=z;rw [if_neg na] at z';exact .inr z'
 ·obtain ⟨a,e,x⟩:=R.wd.obj n ob h;exact ⟨a,e,x.keep ff fun b u hb hn=>kp b u hb (fun z=>by rwa [z] at hn) (fun z=>by rwa [z] at hn)⟩
 ·by_cases hij:i=j
  ·subst hij
   have hlt:i<ρ.length:=by
    have:=(yai.mp hj).1;rwa [yaL] at this
   rw [yaH hlt] at hj;cases hj;exact ⟨.ref p,by rw [yaH (by rw [R.len];exact hlt)],p,o,rfl,if_pos rfl,hp.1,t.up ff⟩
  ·rw [yaT hij] at hj ⊢;obtain ⟨v,e1,x⟩:=R.slots j b e hj;refine ⟨v,e1,x.keep ff fun a u ha hr=>?_⟩;have:=kp a u ha (by rw [hr];exact fun z=>by cases z) (by rw [hr];exact fun z=>hij (by cases z;rfl));exact ⟨this.1,this.2.trans hr⟩
end
noncomputable def tO(cl:Cf)(E:St->XK):Bool->Fe->TE | true,f=>tN cl E f | false,f=>tE cl E f
noncomputable def zqV(i j:Nat)(o1:Bool)(f1:Fe)(o2:Bool)(f2:Fe):Fs:=fun ρ S=>match f1 ρ S with
 | .ok d1 S1=>(match f2 ρ S1 with
  | .ok d2 S2=>.nx ((ρ.set i (some (o1,d1))).set j (some (o2,d2))) S2
  | .exc c S'=>.ex c ρ S'
  | .bad=>.bad)
 | .exc c S'=>.ex c ρ S'
 | .bad=>.bad
section
variable{X:Cx}{cl:Cf}{E:St->XK}{own:Bool}
def zmZ(q:tS cl E own (zqV i j o1 f1 o2 f2) De σ H):zwG i j (zoW (tO cl E o1 f1) (zoW (tO cl E o2 f2) ztI)) De σ H:=by
 obtain ⟨B,w,ρ,S,rfl,R,q⟩:=q;unfold zqV at q
 cases o1 with
 | false =>
  refine ⟨B,w,ρ,S,rfl,R,?_⟩
  cases h1:f1 ρ S with
  | bad=>rwa [h1] at q
  | exc c S1=>rw [h1] at q;exact fun w' R' F'=>q σ w' R' F'
  | ok d1 S1 =>
   rw [h1] at q;dsimp only at q;intro v w1 R1 F1 sh1
   cases o2 with
   | false =>
    refine ⟨B,w1,ρ,S1,rfl,R1,?_⟩
    cases h2:f2 ρ S1 with
    | bad=>rwa [h2] at q
    | exc c S2=>rw [h2] at q;exact fun w' R' F'=>q σ w' R' (F1.trans F')
    | ok d2 S2 =>
     rw [h2] at q;intro v2 w2 R2 F2 sh2;exact ⟨v,v2,rfl,q _ w2 ((R2.put (sh1.up F2)).put sh2) (F1.trans F2)⟩
   | true =>
    refine ⟨B,w1,ρ,S1,rfl,R1,?_⟩
    cases h2:f2 ρ S1 with
    | bad=>rwa [h2] at q
    | exc c S2=>rw [h2] at q;exact fun w' R' F'=>q σ w' R' (F1.trans F')
    | ok d2 S2 =>
     rw [h2] at q;intro p2 u2 w2 R2 F2 hp2 t2;exact ⟨v,.ref p2,rfl,q _ (w2.addAs p2 u2 (.slot j)) ((R2.put (sh1.up F2)).own hp2 t2) (F1.trans (F2.trans (zbx hp2)))⟩
 | true =>
  refine ⟨B,w,ρ,S,rfl,R,?_⟩
  cases h1:f1 ρ S with
  | bad=>rwa [h1] at q
  | exc c S1=>rw [h1] at q;exact fun w' R' F'=>q σ w' R' F'
  | ok d1 S1 =>
   rw [h1] at q;dsimp only at q;intro p u w1 R1 F1 hp t1;have Rh:=R1.hold (o:=u) hp;have fa:=zbx (w:=w1) (p:=p) (o:=u) (r:=.far) hp
   have hB:B.Fr p=none:=by
    cases z:B.Fr p with
    | none=>rfl
    | some x=>have:=(R1.wd.fr p x z).1;rw [hp] at this;cases this
   cases o2 with
   | false =>
    refine ⟨B.hold p u,w1.addAs p u .far,ρ,S1,rfl,Rh,?_⟩
    cases h2:f2 ρ S1 with
    | bad=>rwa [h2] at q
    | exc c S2=>rw [h2] at q;exact fun w' R' F'=>q σ w' (R'.unhold hB) (F1.trans (fa.trans F'))
    | ok d2 S2 =>
     rw [h2] at q;intro v2 w2 R2 F2 sh2;have hpp:=R2.wd.fr p u (show (if p=p then some u else B.Fr p)=some u from if_pos rfl)
     have hfar:w2.ow p≠none:=by rw [hpp.2,show (B.hold p u).fw p=some Root.far from if_pos rfl];exact yaE _
     have fc:=zfe (w:=w2) (p:=p) (r:=.slot i) hfar;exact ⟨.ref p,v2,rfl,q _ (w2.claim p (.slot i)) ((R2.claim hB (t1.up (fa.trans F2))).put (sh2.up fc)) (F1.trans (fa.trans (F2.trans fc)))⟩
   | true =>
    refine ⟨B.hold p u,w1.addAs p u .far,ρ,S1,rfl,Rh,?_⟩
    cases h2:f2 ρ S1 with
    | bad=>rwa [h2] at q
    | exc c S2=>rw [h2] at q;exact fun w' R' F'=>q σ w' (R'.unhold hB) (F1.trans (fa.trans F'))
    | ok d2 S2 =>
     rw [h2] at q;intro p2 u2 w2 R2 F2 hp2 t2;have hpp:=R2.wd.fr p u (show (if p=p then some u else B.Fr p)=some u from if_pos rfl)
     have hfar:w2.ow p≠none:=by rw [hpp.2,show (B.hold p u).fw p=some Root.far from if_pos rfl];exact yaE _
     have fc:=zfe (w:=w2) (p:=p) (r:=.slot i) hfar;exact ⟨.ref p,.ref p2,rfl,q _ ((w2.claim p (.slot i)).addAs p2 u2 (.slot j)) ((R2.claim hB (t1.up (fa.trans F2))).own (w:=w2.claim p (.slot i)) hp2 (t2.up fc)) (F1.trans (fa.trans (F2.trans (fc.trans (zbx (w:=w2.claim p (.slot i)) hp2)))))⟩
end
noncomputable def zfJ:Expr->Bool | .ListComp _ _ _ _=>true | .SetComp _ _ _ _=>true | .DictComp _ _ _ _ _=>true | _=>false
def zf0(h:zfJ e=false):swapsWith e t l env=pure false:=by
 cases e<;>first | rfl | cases h
structure Gd(cl:Cf)(G:Genv)(k:Nat)(X:Cx)(nm:Names)(N:List Str)(E:St->XK)(full:Bool):Prop where
 gx:Gx cl G k X nm N E
 fn:∀x,X.fn x=true
 kind:X.env.scope.kind=.function
 sc:X.env.scope.names=nm
 own:full=true->PassesOwn (model X.prog X.w) X.A X.env X.xe
 raises:full=true->zmh X E
 stk:X.stack=X.env::X.outer
 frm:X.env.frame=some X.env.locals
def zcJ:Nat->Names->List Str->Expr->List Nat
 | 0,_,_,_=>[]
 | n+1,nm,N,e =>
  let rc:=zcJ n nm N
  let op:=fun (e:Expr)=>match e with | .Name _ _=>[] | e=>rc e
  match e with
  | .Name x _=>(zbU nm N x).toList
  | .Tuple es _ _=>es.flatMap rc
  | .List es _=>es.flatMap rc
  | .BinOp a _ b _=>op a++op b
  | .UnaryOp _ a _=>rc a
  | .BoolOp _ es _=>es.flatMap rc
  | .Compare a _ bs _=>op a++bs.flatMap op
  | .IfExp c a b _=>rc c++rc a++rc b
  | .Subscript a (.Slice lo hi _ _) _=>op a++lo.toList.flatMap op++hi.toList.flatMap op
  | .Subscript a i _=>op a++op i
  | .Call (.Name f _) args [] _=>if (zl7 f).isSome||decide (f = "isinstance") then args.flatMap op else args.flatMap rc
  | .Call (.Attribute o _ _) args [] _=>op o++args.flatMap rc
  | .Dict _ _ _=>[]
  | .Attribute o _ _=>op o
  | .ListComp _ [g] scope _=>rc g.iter++(zbf scope.names N).map (·.2)
  | _=>[]
def zgX(t:Tg)(f:Fe):Fs:=fun ρ S=>match f ρ S with
 | .ok d S'=>(match t.put ρ d with | some ρ'=>.nx ρ' S' | none=>.bad)
 | .exc c S'=>.ex c ρ S'
 | .bad=>.bad
noncomputable def zm0(nm:Names)(x y:Str)(px py:Pos)(a b:Expr):Bool :=
 decide (nm.lookup x=some .local)&&decide (nm.lookup y=some .local)&&decide (px.line=py.line)&&!decide (x=y)&&zbq a&&zbq b&&!([a,b].all (foldedForSure 8))&&!([a,b].all (constantsAlone 8))
noncomputable def zzv:Expr->Bool | .Name _ _=>true | .Constant _ _ _=>true | .Subscript _ _ _=>true | .BinOp _ _ _ _=>true | _=>false
noncomputable def zqv:Expr->Option (List (Option Expr)×List Expr×Pos) | .Dict ks vs p=>some (ks,vs,p) | _=>none
def znH(h:zqv e=some x):e=.Dict x.1 x.2.1 x.2.2:=by cases e<;>first | (cases h;done) | (cases h;rfl)
def zif(e:Expr):Bool:=match zqv e with | some x=>x.1.isEmpty&&x.2.1.isEmpty | none=>false
def znI(h:zif e=true):∃p,e=.Dict [] [] p:=by
 unfold zif at h
 cases h1:zqv e with
 | none=>rw [h1] at h;cases h
 | some x =>
  rw [h1] at h;dsimp only at h;rw [yac,ybG,ybG] at h;exact ⟨_,by rw [znH h1,h.1,h.2]⟩
noncomputable def zsr{α:Type}:List α->Option α | [a]=>some a | _=>none
def zk6{α:Type}{l:List α}{a:α}(h:zsr l=some a):l=[a]:=by
 cases l with
 | nil=>cases h
 | cons b t=>cases t with
  | nil=>cases h;rfl
  | cons _ _=>cases h
noncomputable def zfv:Expr->Option (Str×Pos) | .Name x p=>some (x,p) | _=>none
def zcK(h:zfv e=some x):e=.Name x.1 x.2:=by cases e<;>first | (cases h;done) | (cases h;rfl)
noncomputable def zqG:Expr->Option (Expr×List Expr×List Keyword×Pos) | .Call f a k p=>some (f,a,k,p) | _=>none
def zjo(h:zqG e=some x):e=.Call x.1 x.2.1 x.2.2.1 x.2.2.2:=by cases e<;>first | (cases h;done) | (cases h;rfl)
noncomputable def zqY:Expr->Option (Expr×Str×Pos) | .Attribute o m p=>some (o,m,p) | _=>none
def zir(h:zqY e=some x):e=.Attribute x.1 x.2.1 x.2.2:=by cases e<;>first | (cases h;done) | (cases h;rfl)
noncomputable def zzK:Stmt->Option (List Expr×Expr×Pos) | .Assign t e p=>some (t,e,p) | _=>none
def zvL(h:zzK e=some x):e=.Assign x.1 x.2.1 x.2.2:=by cases e<;>first | (cases h;done) | (cases h;rfl)
noncomputable def zqS:Expr->Option (List Expr×Nat×Pos) | .Tuple es k p=>some (es,k,p) | _=>none
def zhR(h:zqS e=some x):e=.Tuple x.1 x.2.1 x.2.2:=by cases e<;>first | (cases h;done) | (cases h;rfl)
noncomputable def zwL:Expr->Option (Expr×Expr×Pos) | .Subscript a i p=>some (a,i,p) | _=>none
def zoY(h:zwL e=some x):e=.Subscript x.1 x.2.1 x.2.2:=by cases e<;>first | (cases h;done) | (cases h;rfl)
noncomputable def lcE:Expr->Option (Expr×List Comprehension×Scope×Pos) | .ListComp elt gs scope p=>some (elt,gs,scope,p) | _=>none
def zsK(h:lcE e=some x):e=.ListComp x.1 x.2.1 x.2.2.1 x.2.2.2:=by cases e<;>first | (cases h;done) | (cases h;rfl)
noncomputable def zui{α:Type}:List α->Option (α×α) | [a,b]=>some (a,b) | _=>none
def zn0{α:Type}{l:List α}{a:α×α}(h:zui l=some a):l=[a.1,a.2]:=by
 cases l with
 | nil=>cases h
 | cons b t=>cases t with
  | nil=>cases h
  | cons c t=>cases t with
   | nil=>cases h;rfl
   | cons _ _=>cases h
def zvM(G:Genv)(rc:Rec)(nm:Names)(N:List Str)(x:Str)(e:Expr):Option Fs :=
 (tgI true nm N N.length x).bind fun i=>match lcE e with
  | some c=>(zsr c.2.1).bind fun g=>(zj2 G rc nm N c.1 g c.2.2.1).bind fun f=>some (zbV i true f)
  | none=>if zfJ e then none else (rc nm N e).bind fun p=>some (zbV i p.1 p.2)
noncomputable def l3N:List Expr->Option ((Str×Pos)×(Str×Pos)×Str×Pos) | [.Name z r,.Name x p,.Name y q]=>some ((z,r),(x,p),y,q) | _=>none
def zsM(h:l3N l=some x):l=[.Name x.1.1 x.1.2,.Name x.2.1.1 x.2.1.2,.Name x.2.2.1 x.2.2.2]:=by
 unfold l3N at h;split at h
 ·cases h;rfl
 ·cases h
noncomputable def a3E:List Expr->Option (Expr×Expr×Pos) | [a,b,.List [] p]=>some (a,b,p) | _=>none
def ztz(h:a3E l=some x):l=[x.1,x.2.1,.List [] x.2.2]:=by
 unfold a3E at h;split at h
 ·cases h;rfl
 ·cases h
def zqP(rc:Rec)(nm:Names)(N:List Str)(ts vs:List Expr):Option Fs:=(l3N ts).bind fun x=>(a3E vs).bind fun c=>(tgI true nm N N.length x.1.1).bind fun h=>(tgI true nm N N.length x.2.1.1).bind fun i=>(tgI true nm N N.length x.2.2.1).bind fun j=>(shE rc nm N c.1).bind fun f=>(rc nm N c.2.1).bind fun p=>if p.1 then some (zjF h i j f p.2) else none
def zxX(rc:Rec)(nm:Names)(N:List Str)(t:List Expr×Nat×Pos)(vs:List Expr)(e:Expr):Option Fs:=match zqP rc nm N t.1 vs with
 | some f=>some f
 | none=>(tgG true nm N N.length (.Tuple t.1 t.2.1 t.2.2)).bind fun t=>(shE rc nm N e).bind fun f=>some (zgX t f)
def zvK(rc:Rec)(nm:Names)(N:List Str)(t:List Expr×Nat×Pos)(e:Expr):Option Fs:=match zqS e with
 | some v=>if zvB nm t.1 then zxX rc nm N t v.1 e else (zui t.1).bind fun xy=>(zfv xy.1).bind fun x=>(zfv xy.2).bind fun y=>(zui v.1).bind fun ab =>
  if zm0 nm x.1 y.1 x.2 y.2 ab.1 ab.2 then (tgI true nm N N.length x.1).bind fun i=>(tgI true nm N N.length y.1).bind fun j=>if i=j then none else (rc nm N ab.1).bind fun p=>(rc nm N ab.2).bind fun q=>some (zqV i j p.1 p.2 q.1 q.2)
  else none
 | none=>(tgG true nm N N.length (.Tuple t.1 t.2.1 t.2.2)).bind fun t=>(shE rc nm N e).bind fun f=>some (zgX t f)
def zvO(G:Genv)(rc:Rec)(nm:Names)(N:List Str)(o:Expr)(f:Str)(e:Expr):Option Fs :=
 (nmF o).bind fun x=>if zif e then (if G.ob.df f&&G.ob.fk G.ob.cur f then (zbU nm N x.1).map fun i=>zjG G.ob.cur f i else none) else (if G.ob.df f||!G.ob.fk G.ob.cur f then none else (shE rc nm N o).bind fun fo=>(shE rc nm N e).bind fun fe=>some (zf3 G.ob.cur f fo fe))
def zvN(G:Genv)(rc:Rec)(nm:Names)(N:List Str)(o:Expr)(f:Str)(ix e:Expr):Option Fs :=
 if zgi o&&G.ob.df f&&!zfJ e&&G.ob.fk G.ob.cur f then (nmF ix).bind fun x=>(zbU nm N x.1).bind fun i=>(shE rc nm N o).bind fun fo=>(shE rc nm N e).bind fun fe=>some (zjE G.ob.cur f fo i fe) else none
def zvP(rc:Rec)(nm:Names)(N:List Str)(x:Str)(ix e:Expr):Option Fs :=
 if zzv ix&&!zfJ e then (zbU nm N x).bind fun i=>(shE rc nm N ix).bind fun k=>(shE rc nm N e).bind fun f=>some (zh1 i k f) else none
def ztx(G:Genv)(rc:Rec)(nm:Names)(N:List Str)(q:Expr×Expr×Pos)(e:Expr):Option Fs:=match zqY q.1 with
 | some a=>zvN G rc nm N a.1 a.2.1 q.2.1 e
 | none=>(zfv q.1).bind fun x=>zvP rc nm N x.1 q.2.1 e
def zt2(G:Genv)(rc:Rec)(nm:Names)(N:List Str)(tg e:Expr):Option Fs:=match zfv tg with
 | some x=>zvM G rc nm N x.1 e
 | none=>match zqS tg with
  | some t=>zvK rc nm N t e
  | none=>match zqY tg with
   | some a=>zvO G rc nm N a.1 a.2.1 e
   | none=>(zwL tg).bind fun q=>ztx G rc nm N q e
structure Mc where
 x:Str
 px:Pos
 m:Str
 ap:Pos
 a:Expr
 cp:Pos
def zlg(e:Expr):Option Mc:=(zqG e).bind fun c=>if c.2.2.1.isEmpty then (zqY c.1).bind fun t=>(zfv t.1).bind fun x=>(zsr c.2.1).bind fun a=>some ⟨x.1,x.2,t.2.1,t.2.2,a,c.2.2.2⟩ else none
def zwP(rc:Rec)(nm:Names)(N:List Str)(c:Mc):Option Fs:=(zlg c.a).bind fun d=>if decide (d.m = "pop")&&(d.ap.endLine == d.cp.line) then (zbU nm N c.x).bind fun i=>(zbU nm N d.x).bind fun j=>(shE rc nm N d.a).bind fun f=>some (zdG i j f) else none
def zqq(G:Genv)(rc:Rec)(nm:Names)(N:List Str)(e:Expr):Option Fs:=match zlg e with
 | some c=>if decide (c.m = "append")&&(c.ap.endLine == c.cp.line) then (match zwP rc nm N c with | some f=>some f | none=>(zbU nm N c.x).bind fun i=>(shE rc nm N c.a).bind fun f=>some (ziH i f))
  else if decide (c.m = "extend")&&(c.ap.endLine == c.cp.line) then (zbU nm N c.x).bind fun i=>(opE rc nm N c.a).bind fun f=>some (zh2 i f) else if zfJ e then none else (shE rc nm N e).map zpp
 | none=>if zfJ e then none else (shE rc nm N e).map zpp
def zuH(rc:Rec)(nm:Names)(N:List Str)(own:Bool)(e:Expr):Option Fs:=match own with
 | true=>(match e with
  | .Name x _=>(zbU nm N x).map zh0
  | e=>(rc nm N e).bind fun p=>if p.1 then some (za6 p.2) else none)
 | false=>(shE rc nm N e).map za6
def rzG(G:Genv)(rc:Rec)(nm:Names)(N:List Str)(full:Bool)(a b:Option Expr):Option Fs:=if b.isNone then a.bind fun e=>(zqG e).bind fun c=>(zfv c.1).bind fun x=>if c.2.2.1.isEmpty&&!c.2.1.isEmpty&&full&&zbP nm x.1&&G.exc x.1 then (shL rc nm N c.2.1).bind fun fs=>some (sRz x.1 fs) else none else none
def stG(G:Genv)(rc:Rec)(rs:Bool->List Stmt->Option Fs)(nm:Names)(N:List Str)(own full:Bool)(st:Stmt):Option Fs:=match st with
 | .Pass _=>some sNx
 | .Break _=>some sBk
 | .Assign ts e _=>(zsr ts).bind fun tg=>zt2 G rc nm N tg e
 | .Expr e _=>zqq G rc nm N e
 | .AugAssign tg op e _=>(zfv tg).bind fun x=>(zt0 op).bind fun gg=>(tgI true nm N N.length x.1).bind fun i=>(shE rc nm N e).bind fun f=>some (zrQ i gg f)
 | .Return o _=>(match o with | some e=>zuH rc nm N own e | none=>if own then none else some zmy)
 | .If c a b _=>if zbt c then (shE rc nm N c).bind fun f=>(rs full a).bind fun g=>(rs full b).bind fun h=>some (sIf f g h) else none
 | .For tg it body el _=>if full&&el.isEmpty then (zjU G rc nm N tg it).bind fun i=>(tgG true nm N N.length tg).bind fun t=>(rs full body).bind fun b=>some (zgW t i b) else none
 | .While c body el _=>if full&&zbt c&&el.isEmpty then (shE rc nm N c).bind fun f=>(rs full body).bind fun b=>some (zgV 100000 f b) else none
 | .Raise a b _=>rzG G rc nm N full a b
 | _=>none
def zpz(n:Nat)(own:Bool)(nm:Names)(N:List Str):Stmt->List Nat
 | .Assign [_] e _=>zcJ n nm N e
 | .Expr (.Call (.Attribute _ _ _) args [] _) _=>args.flatMap (zcJ n nm N)
 | .Expr e _=>zcJ n nm N e
 | .Return (some (.Name x p)) _=>if own then [] else zcJ n nm N (.Name x p)
 | .Return (some e) _=>zcJ n nm N e
 | .If c _ _ _=>zcJ n nm N c
 | .For _ it _ _ _=>zcJ n nm N it
 | .While c _ _ _=>zcJ n nm N c
 | _=>[]
def blk(ds:Stmt->Option Fs):List Stmt->Option Fs
 | []=>some sNx
 | s::r=>(ds s).bind fun f=>(blk ds r).bind fun g=>some (zaj f g)
def znK(G:Genv)(own:Bool):Nat->Bool->Names->List Str->Stmt->Option Fs
 | 0,_,_,_,_=>none
 | n+1,full,nm,N,st=>(stG G (zvy G n) (fun fl b=>blk (znK G own n fl nm N) b) nm N own full st).map (sFz (zpz n own nm N st))
section
variable{cl:Cf}{G:Genv}{k:Nat}{rc:Rec}{X:Cx}{nm:Names}{N:List Str}{E:St->XK}{own full:Bool}
def Gd.sto(g:Gd cl G k X nm N E full):Sto' X nm true:=⟨fun _ x _=>g.fn x⟩
def zjy:∃b,swapsWith (.ListComp elt gs scope p) (some (.Name x px)) l env=pure b:=⟨_,rfl⟩
def zmc(q:tS cl E own (zgX t f) De σ H):zqU (tE cl E f) (tG cl n t) De σ H:=by
 obtain ⟨B,w,ρ,S,rfl,R,q⟩:=q;refine ⟨B,w,ρ,S,rfl,R,?_⟩;unfold zgX at q
 cases hf:f ρ S with
 | bad=>rwa [hf] at q
 | exc c S1=>rw [hf] at q;exact fun w' R' F'=>q σ w' R' F'
 | ok d S1 =>
  rw [hf] at q;intro v w' R' F' h';dsimp only at q
  cases hp:t.put ρ d with
  | none=>rw [hp] at q;exact q.elim
  | some ρ'=>rw [hp] at q;exact ⟨B,w',ρ,S1,d,ρ',rfl,R',h',hp,fun σ' _ _ R2=>q σ' w' R2 F'⟩
def zsj(hk:X.env.scope.kind=.function)(hs:X.env.scope.names=nm)(h:zm0 nm x y px py a b=true) :
  swappedStores [.Tuple [.Name x px,.Name y py] kt pt] (.Tuple [a,b] k2 pt2) X.env=pure (some [x,y]):=by
 unfold zm0 at h;simp only [yac,yaZ,yb1,ycl] at h;obtain ⟨⟨⟨⟨⟨⟨⟨h1,h2⟩,h3⟩,h4⟩,h5⟩,h6⟩,h7⟩,h8⟩:=h
 have hb:X.env.blockKind=.function:=by unfold Env.blockKind;rw [hk];rfl
 have k1:X.env.kindOf x=some .local:=by unfold Env.kindOf;rw [hs];exact h1
 have k2':X.env.kindOf y=some .local:=by unfold Env.kindOf;rw [hs];exact h2
 have st:([a,b].any fun | .Starred ..=>true | _=>false)=false:=by
  rw [yc1];intro e he
  have hp:zbq e=true:=by
   rcases yau.mp he with z | z
   ·rw [z];exact h5
   ·rw [yaF.mp z];exact h6
  cases e<;>first | (cases hp;done) | (intro z;cases z)
 have ed:[x,y].eraseDups.length=2:=by
  have:(y == x)=false:=by rw [yaR];exact fun z=>h4 z.symm
  simp [List.eraseDups_cons,this]
 unfold swappedStores;simp only [hb,st];simp [k1,k2',h3,h7,h8,ed,show (Expr.Name x px).pos=px from rfl,show (Expr.Name y py).pos=py from rfl];intro z;exfalso
 rcases z with z | z
 ·cases a<;>first | (cases h5;done) | cases z
 ·cases b<;>first | (cases h6;done) | cases z
def znM(hs:zbs cl G k rc)(g:Gd cl G k X nm N E full)(hi:tgI true nm N N.length x=some i)(h:zj2 G rc nm N elt gg scope=some f) :
  PS X (.Assign [.Name x px] (.ListComp elt [gg] scope p) pos) (tS cl E own (zbV i true f)):=by
 obtain ⟨a1,a2,a3,a4,a5⟩:=zdy g.gx g.sto hi;obtain ⟨b,hb⟩:=zjy (elt:=elt) (gs:=[gg]) (scope:=scope) (p:=p) (px:=px) (x:=x) (l:=pos.line) (env:=X.env)
 cases b with
 | false=>exact zkx a2 a3 a4 (zlU hs g.gx h) hb a5
 | true =>
  obtain ⟨it,t,c,el,rfl,eg,S,i1,i2,i3,i4,i5⟩:=zfS hs g.gx h;rw [eg] at hb ⊢;refine PS.imp (zmL g.gx.calm S a2 a3 a4 i1 i3 i4 i5 hb a5 (zgd i2)) ?_;intro De σ H q;exact zoH (ztw q)
def zn3:swapsWithSole [.Subscript a i p] e l env=pure false:=by cases e<;>rfl
def zn5:swappedStores [.Subscript a i p] e env=pure none:=by cases e<;>rfl
def zrh:swapsWithSole [.Tuple es kk p] e l env=pure false:=by cases e<;>rfl
def zrl(h:zqS e=none):swappedStores [.Tuple es kk p] e env=pure none:=by cases e<;>first | rfl | cases h
def zn4:swapsWith e (some (.Attribute o f p)) l env=pure false:=by cases e<;>rfl
def zqL(hs:zbs cl G k rc)(g:Gd cl G k X nm N E full)(h:zvM G rc nm N x e=some f):PS X (.Assign [.Name x px] e pos) (tS cl E own f):=by
 unfold zvM at h;obtain ⟨i,h1,h⟩:=zaa h
 cases hl:lcE e with
 | some c =>
  rw [hl] at h;obtain ⟨gg,h2,h⟩:=zaa h;obtain ⟨fe,h3,h⟩:=zaa h;cases h;rw [zsK hl,zk6 h2];exact znM hs g h1 h3
 | none =>
  rw [hl] at h;dsimp only at h;split at h
  ·cases h
  ·rename_i hc;obtain ⟨⟨o,fe⟩,h2,h⟩:=zaa h;cases h;obtain ⟨a1,a2,a3,a4,a5⟩:=zdy g.gx g.sto h1;obtain ⟨b1,b2,_,_⟩:=hs X nm N E g.gx _ o fe h2;have sw:=zf0 (t:=some (.Name x px)) (l:=pos.line) (env:=X.env) (by simpa using hc)
   cases o with
   | false=>exact zru a2 a3 a4 b2 sw a5
   | true=>exact zkx a2 a3 a4 (b1 rfl) sw a5
def zqK(hs:zbs cl G k rc)(g:Gd cl G k X nm N E full)(h:zvK rc nm N t e=some f):PS X (.Assign [.Tuple t.1 t.2.1 t.2.2] e pos) (tS cl E own f):=by
 have tupCase:swappedStores [.Tuple t.1 t.2.1 t.2.2] e X.env=pure none->((tgG true nm N N.length (.Tuple t.1 t.2.1 t.2.2)).bind fun t=>(shE rc nm N e).bind fun f=>some (zgX t f))=some f->PS X (.Assign [.Tuple t.1 t.2.1 t.2.2] e pos) (tS cl E own f):=by
  intro sw2 h;obtain ⟨t',h1,h⟩:=zaa h;obtain ⟨fe,h2,h⟩:=zaa h;cases h;exact PS.imp (ziM (zaB hs g.gx h2).1 (zoQ g.gx g.sto h1) zrh sw2 rfl) fun _ _ _ q=>zmc q
 unfold zvK at h
 cases hv:zqS e with
 | none =>
  rw [hv] at h;exact tupCase (zrl hv) h
 | some v =>
  rw [hv] at h;dsimp only at h;split at h
  ·rename_i hce;have ev:=zhR hv;unfold zxX at h
   cases h3:zqP rc nm N t.1 v.1 with
   | some f3 =>
    rw [h3] at h;cases h;unfold zqP at h3;obtain ⟨x,e1,h3⟩:=zaa h3;obtain ⟨c,e2,h3⟩:=zaa h3;obtain ⟨hh,h0,h3⟩:=zaa h3;obtain ⟨i,h4,h3⟩:=zaa h3;obtain ⟨j,h5,h3⟩:=zaa h3;obtain ⟨fa,h6,h3⟩:=zaa h3;obtain ⟨⟨o,fe⟩,h7,h3⟩:=zaa h3;dsimp only at h3;split at h3
    ·rename_i ho;cases h3;obtain ⟨_,_,c3,c4,c5⟩:=zdy g.gx g.sto h0;obtain ⟨_,a2,a3,a4,a5⟩:=zdy g.gx g.sto h4;obtain ⟨_,_,b3,b4,b5⟩:=zdy g.gx g.sto h5;obtain ⟨p1,p2,_,p4⟩:=hs X nm N E g.gx c.2.1 o fe h7;obtain ⟨q1,_,q3⟩:=zaB hs g.gx h6;have hsw:=zl0 (vs:=v.1) (k:=t.2.1) (k2:=v.2.1) (p:=t.2.2) (p2:=v.2.2) g.sc hce;rw [ev];rw [zsM e1,ztz e2] at hsw ⊢;exact zuP g.gx.calm a2 c3 a3 b3 c4 a4 b4 c5 a5 b5 q1 (zah q3) (p1 ho) (zah p4) hsw
    ·cases h3
   | none =>
    rw [h3] at h;refine tupCase ?_ h;rw [ev];exact zl0 g.sc hce
  obtain ⟨xy,h1,h⟩:=zaa h;obtain ⟨x,h2,h⟩:=zaa h;obtain ⟨y,h3,h⟩:=zaa h;obtain ⟨ab,h4,h⟩:=zaa h;have ev:=zhR hv
  have et:t.1=[.Name x.1 x.2,.Name y.1 y.2]:=by rw [zn0 h1,zcK h2,zcK h3]
  rw [zn0 h4] at ev;obtain ⟨a,b⟩:=ab;dsimp only at h ev;split at h
  ·rename_i hp;obtain ⟨i,h1,h⟩:=zaa h;obtain ⟨j,h2,h⟩:=zaa h;split at h
   ·cases h
   ·rename_i hij;obtain ⟨⟨o1,f1⟩,h3,h⟩:=zaa h;obtain ⟨⟨o2,f2⟩,h4,h⟩:=zaa h;cases h;obtain ⟨_,a2,a3,_,_⟩:=zdy g.gx g.sto h1;obtain ⟨_,_,b3,_,_⟩:=zdy g.gx g.sto h2;obtain ⟨p1,p2,_,p4⟩:=hs X nm N E g.gx a o1 f1 h3;obtain ⟨q1,q2,_,q4⟩:=hs X nm N E g.gx b o2 f2 h4
    have hx:X.env.scope.names.lookup x.1=some .local/\X.env.scope.names.lookup y.1=some .local:=by
     unfold zm0 at hp;simp only [yac,yaZ] at hp;rw [g.sc];exact ⟨hp.1.1.1.1.1.1.1,hp.1.1.1.1.1.1.2⟩
    have P1:PE X a (tO cl E o1 f1):=by cases o1 with | false=>exact p2 | true=>exact p1 rfl
    have P2:PE X b (tO cl E o2 f2):=by cases o2 with | false=>exact q2 | true=>exact q1 rfl
    rw [et,ev];exact PS.imp (zr4 g.gx.calm a2 a3 b3 hij hx.1 hx.2 (za7 P1 (za7 P2 zcF (zaN (zah q4))) (zaN (zah p4))) (zsj g.kind g.sc hp) rfl) fun _ _ _ q=>zmZ q
  ·cases h
def zqN(hs:zbs cl G k rc)(g:Gd cl G k X nm N E full)(h:zvO G rc nm N o fl e=some f):PS X (.Assign [.Attribute o fl ap] e pos) (tS cl E own f):=by
 unfold zvO at h;obtain ⟨x,h1,hz⟩:=zaa h;have e1:=zi0 h1;clear h h1;subst e1;split at hz
 ·rename_i hd;split at hz
  ·rename_i hf;rw [yac] at hf;obtain ⟨i,h1,hz⟩:=zaP hz;subst hz;obtain ⟨s1,s2,s3,s4⟩:=g.gx.slot h1;obtain ⟨p,rfl⟩:=znI hd;exact zo6 s1 s2 s3 s4 g.gx.same (g.gx.gok.fk _ _ hf.2) zn4
  ·cases hz
 ·split at hz
  ·cases hz
  ·rename_i hf;rw [ycC,Bool.or_eq_false_iff,Bool.not_eq_false'] at hf;obtain ⟨fo,h2,hz⟩:=zaa hz;obtain ⟨fe,h3,hz⟩:=zaa hz;cases hz;exact zo5 g.gx.same (g.gx.gok.fk _ _ hf.2) (zaB hs g.gx h2).1 (zaB hs g.gx h3).1 zn4
def zqM(hs:zbs cl G k rc)(g:Gd cl G k X nm N E full)(h:zvN G rc nm N o fl ix e=some f):PS X (.Assign [.Subscript (.Attribute o fl ap) ix p3] e pos) (tS cl E own f):=by
 unfold zvN at h;split at h
 ·rename_i hc;rw [yac,yac,yac,yb1] at hc;obtain ⟨x,h1,hz⟩:=zaa h;have e1:=zi0 h1;clear h h1;subst e1;obtain ⟨i,h1,hz⟩:=zaa hz;obtain ⟨fo,h2,hz⟩:=zaa hz;obtain ⟨fe,h3,hz⟩:=zaa hz;cases hz;obtain ⟨s1,s2,s3,s4⟩:=g.gx.slot h1;refine zo3 s1 s2 s3 s4 g.gx.u16 g.gx.same (g.gx.gok.fk _ _ hc.2) (zaB hs g.gx h2).1 ?_ (zaB hs g.gx h3).1 zn3 zn5 ?_
  ·cases o<;>first | rfl | cases hc.1.1.1
  ·intro _;rfl
 ·cases h
def zqO(hs:zbs cl G k rc)(g:Gd cl G k X nm N E full)(h:zvP rc nm N x ix e=some f):PS X (.Assign [.Subscript (.Name x px) ix p3] e pos) (tS cl E own f):=by
 unfold zvP at h;split at h
 ·rename_i hx;rw [yac] at hx;obtain ⟨i,h1,h⟩:=zaa h;obtain ⟨fi,h2,h⟩:=zaa h;obtain ⟨fe,h3,h⟩:=zaa h;cases h;obtain ⟨s1,s2,s3,s4⟩:=g.gx.slot h1;refine zo2 g.gx.same s1 s2 s3 s4 (zaB hs g.gx h2).1 (zaB hs g.gx h3).1 zn3 zn5 ?_
  cases ix<;>first | (intro _;rfl) | cases hx.1
 ·cases h
def ztv(hs:zbs cl G k rc)(g:Gd cl G k X nm N E full)(h:zt2 G rc nm N tg e=some f):PS X (.Assign [tg] e pos) (tS cl E own f):=by
 unfold zt2 at h
 cases h1:zfv tg with
 | some x=>rw [h1] at h;rw [zcK h1];exact zqL hs g h
 | none =>
  rw [h1] at h
  cases h2:zqS tg with
  | some t=>rw [h2] at h;rw [zhR h2];exact zqK hs g h
  | none =>
   rw [h2] at h
   cases h3:zqY tg with
   | some a=>rw [h3] at h;rw [zir h3];exact zqN hs g h
   | none =>
    rw [h3] at h;obtain ⟨q,h4,h⟩:=zaa h;rw [zoY h4];unfold ztx at h
    cases h5:zqY q.1 with
    | some a=>rw [h5] at h;rw [zir h5];exact zqM hs g h
    | none =>
     rw [h5] at h;obtain ⟨x,h6,h⟩:=zaa h;rw [zcK h6];exact zqO hs g h
def zi4(h:zlg e=some c):e=.Call (.Attribute (.Name c.x c.px) c.m c.ap) [c.a] [] c.cp:=by
 unfold zlg at h;obtain ⟨c1,h1,h⟩:=zaa h;split at h
 ·rename_i hk;obtain ⟨t,h2,h⟩:=zaa h;obtain ⟨x,h3,h⟩:=zaa h;obtain ⟨a,h4,h⟩:=zaa h;cases h;rw [zjo h1,zir h2,zcK h3,zk6 h4,ybG.mp hk]
 ·cases h
def zqp(hs:zbs cl G k rc)(g:Gd cl G k X nm N E full)(h:zqq G rc nm N e=some f):PS X (.Expr e pos) (tS cl E own f):=by
 unfold zqq at h
 cases hc:zlg e with
 | some c =>
  obtain ⟨x,px,m,ap,a,cp⟩:=c;obtain rfl:=zi4 hc;rw [hc] at h;dsimp only at h;split at h
  ·rename_i hm;rw [yac] at hm;have em:=yaq hm.1;subst em;split at h
   ·rename_i fp hp;cases h;unfold zwP at hp;obtain ⟨d,e1,hp⟩:=zaa hp;dsimp only at hp e1;split at hp
    ·rename_i hb;rw [yac] at hb;obtain ⟨i,h1,hp⟩:=zaa hp;obtain ⟨j,h2,hp⟩:=zaa hp;obtain ⟨fe,h3,hp⟩:=zaa hp;cases hp;obtain ⟨s1,s2,s3,s4⟩:=g.gx.slot h1;obtain ⟨t1,t2,t3,t4⟩:=g.gx.slot h2;obtain ⟨a1,_,a3⟩:=zaB hs g.gx h3;have ed:=zi4 e1;rw [yaq hb.1] at ed;rw [ed];exact zo9 s1 s2 s3 s4 t1 t2 t3 t4 a1 (zah a3) hm.2 hb.2
    ·cases hp
   obtain ⟨i,h1,h⟩:=zaa h;obtain ⟨fe,h2,h⟩:=zaa h;cases h;obtain ⟨s1,s2,s3,s4⟩:=g.gx.slot h1;obtain ⟨a1,_,a3⟩:=zaB hs g.gx h2;exact zrv s1 s2 s3 s4 a1 (zah a3) hm.2
  split at h
  ·rename_i hm;rw [yac] at hm;have em:=yaq hm.1;subst em;obtain ⟨i,h1,h⟩:=zaa h;obtain ⟨fe,h2,h⟩:=zaa h;cases h;obtain ⟨s1,s2,s3,s4⟩:=g.gx.slot h1;obtain ⟨a1,a3⟩:=zcc hs g.gx h2;exact zo7 s1 s2 s3 s4 a1 (zah a3) hm.2
  split at h
  ·cases h
  ·rename_i hc;obtain ⟨fe,h2,h⟩:=zaP h;subst h;exact zn6 (zaB hs g.gx h2).1 (zf0 (by simpa using hc))
 | none =>
  rw [hc] at h;dsimp only at h;split at h
  ·cases h
  ·rename_i hc;obtain ⟨fe,h2,h⟩:=zaP h;subst h;exact zn6 (zaB hs g.gx h2).1 (zf0 (by simpa using hc))
def zrS(hs:zbs cl G k rc)(g:Gd cl G k X nm N E full)(h:zuH rc nm N own e=some f):PS X (.Return (some e) pos) (tS cl E own f):=by
 unfold zuH at h;split at h
 ·split at h
  ·obtain ⟨i,h1,h⟩:=zaP h;subst h;obtain ⟨s1,s2,s3,s4⟩:=g.gx.slot h1;exact zoZ s1 s2 s3 s4
  ·obtain ⟨⟨o,fe⟩,h1,h⟩:=zaa h;dsimp only at h;split at h
   ·rename_i ho;cases h;exact zo0 ((hs X nm N E g.gx _ o fe h1).1 ho)
   ·cases h
 ·obtain ⟨fe,h2,h⟩:=zaP h;subst h;exact zrp (zaB hs g.gx h2).1
def zuu(hs:zbs cl G k rc){rs:Bool->List Stmt->Option Fs}(hr:∀(fl:Bool) (X:Cx) (E:St->XK),Gd cl G k X nm N E fl->∀b f,rs fl b=some f->PSs X b (tS cl E own f))(g:Gd cl G k X nm N E full){st:Stmt}{f:Fs}(h:stG G rc rs nm N own full st=some f):PS X st (tS cl E own f):=by
 cases st with
 | Pass p=>cases h;exact zo4
 | Break p=>cases h;exact zrs
 | Assign ts e p =>
  obtain ⟨tg,h1,h⟩:=zaa (show ((zsr ts).bind fun tg=>zt2 G rc nm N tg e)=some f from h);obtain rfl:=zk6 h1;exact ztv hs g h
 | Expr e p=>exact zqp hs g h
 | AugAssign tg op e p =>
  obtain ⟨x,h1,hz⟩:=zaa (show ((zfv tg).bind fun x=>(zt0 op).bind fun gg=>(tgI true nm N N.length x.1).bind fun i=>(shE rc nm N e).bind fun f=>some (zrQ i gg f))=some f from h);obtain ⟨gg,h2,hz⟩:=zaa hz;obtain ⟨i,h3,hz⟩:=zaa hz;obtain ⟨fe,h4,hz⟩:=zaa hz;cases hz;rw [zcK h1];obtain ⟨_,a2,a3,a4,a5⟩:=zdy g.gx g.sto h3;exact zrt h2 a2 a3 a4 (zaB hs g.gx h4).1 a5
 | Return o p =>
  cases o with
  | some e=>exact zrS hs g h
  | none =>
   have h':(if own then none else some zmy)=some f:=h;split at h'
   ·cases h'
   ·rename_i ho;cases h'
    have:own=false:=by simpa using ho
    subst this;exact zo1
 | If c a b p =>
  have h':(if zbt c then (shE rc nm N c).bind fun f=>(rs full a).bind fun g=>(rs full b).bind fun h=>some (sIf f g h) else none)=some f:=h;split at h'
  ·rename_i ht;obtain ⟨fc,h1,h⟩:=zaa h';obtain ⟨fa,h2,h⟩:=zaa h;obtain ⟨fb,h3,h⟩:=zaa h;cases h;exact zuv ((zaB hs g.gx h1).2.1 ht) (hr full X E g a fa h2) (hr full X E g b fb h3)
  ·cases h'
 | For tg it body el p =>
  have h':(if full&&el.isEmpty then (zjU G rc nm N tg it).bind fun i=>(tgG true nm N N.length tg).bind fun t=>(rs full body).bind fun b=>some (zgW t i b) else none)=some f:=h;split at h'
  ·rename_i hf;rw [yac] at hf;obtain rfl:=ybG.mp hf.2;obtain ⟨it,h1,h⟩:=zaa h';obtain ⟨t,h2,h⟩:=zaa h;obtain ⟨fb,h3,h⟩:=zaa h;cases h;obtain ⟨i1,i2⟩:=zly hs g.gx (tg:=_) h1;exact zrr (g.own hf.1) g.gx.calm i1 (zoQ g.gx g.sto h2) (hr full X E g _ fb h3) (zgd i2)
  ·cases h'
 | While c body el p =>
  have h':(if full&&zbt c&&el.isEmpty then (shE rc nm N c).bind fun f=>(rs full body).bind fun b=>some (zgV 100000 f b) else none)=some f:=h;split at h'
  ·rename_i hf;rw [yac,yac] at hf;obtain rfl:=ybG.mp hf.2;obtain ⟨fc,h1,h⟩:=zaa h';obtain ⟨fb,h3,h⟩:=zaa h;cases h;exact zmr 100000 (g.own hf.1.1) ((zaB hs g.gx h1).2.1 hf.1.2) (hr full X E g _ fb h3)
  ·cases h'
 | Raise ea eb p =>
  have h':rzG G rc nm N full ea eb=some f:=h;unfold rzG at h';split at h'
  ·rename_i hb;obtain rfl:=Option.isNone_iff_eq_none.mp hb;obtain ⟨e0,e1,hz⟩:=zaa h';obtain ⟨c0,h1,hy⟩:=zaa hz;obtain ⟨⟨c,p⟩,h2,hx⟩:=zaa hy;have e2:=zjo h1;obtain ⟨fn,args,kws,cp⟩:=c0;have e3:fn=.Name c p:=zcK h2;clear h h' hz hy h1 h2;subst e1;subst e2;subst e3;dsimp only at hx ⊢;split at hx
   ·rename_i hf;simp only [yac] at hf;obtain ⟨⟨⟨⟨k0,a0⟩,f0⟩,g0⟩,x0⟩:=hf;obtain rfl:=ybG.mp k0
    cases args with
    | nil=>cases a0
    | cons e es =>
    obtain ⟨fs,h1,h⟩:=zaa hx;cases h;obtain ⟨g1,g2,_⟩:=g.gx.glob g0;obtain ⟨m,z⟩:=g.gx.gok.exc c x0;obtain ⟨a1,a2,_⟩:=zeT hs g.gx h1;rw [ybJ,yac] at a2;refine PS.imp (zkS (g.raises f0) g.gx.calm g1 m z a1 (zaN a2.1) (zbw a2.2) g2) ?_;rintro De σ H ⟨B,w,ρ,S,rfl,R,q⟩;refine ⟨B,w,ρ,S,rfl,R,?_⟩;unfold sRz at q
    cases hv:zal fs ρ S with
    | bad=>rwa [hv] at q
    | exc c S1=>rw [hv] at q;exact fun w' R' F'=>q σ w' R' F'
    | ok ds S1 =>
     rw [hv] at q;dsimp only at q
     cases hz:zaH ds.length with
     | false=>rw [hz,if_neg (by decide)] at q;exact q.elim
     | true =>
      rw [hz,if_pos rfl] at q;exact fun vs w' R' F' sh=>⟨by rw [sh.length];exact zaT hz,q σ w' R' F'⟩
   ·cases hx
  ·cases h'
 | _=>cases h
theorem zjp(hd:∀st f,ds st=some f->PS X st (tS cl E own f)):∀{b:List Stmt} {f:Fs},blk ds b=some f->PSs X b (tS cl E own f)
 | [],f,h=>by cases h;exact zrq
 | s::r,f,h=>by
  unfold blk at h;obtain ⟨f1,h1,h⟩:=zaa h;obtain ⟨f2,h2,h⟩:=zaa h;cases h;exact zo8 (hd s f1 h1) (zjp hd h2)
theorem zgs:∀(n:Nat) (fl:Bool) (X:Cx) (E:St->XK),Gd cl G k X nm N E fl->∀st f,znK G own n fl nm N st=some f->PS X st (tS cl E own f)
 | 0,_,_,_,_,_,_,h=>by cases h
 | n+1,fl,X,E,g,st,f,h=>by
  unfold znK at h;obtain ⟨f1,h1,h⟩:=zaP h;subst h;exact zuw _ (zuu (zoF n) (fun fl X E g b f hb=>zjp (fun st f hst=>zgs n fl X E g st f hst) hb) g h1)
end
noncomputable def zbC(nN:Nat)(own:Bool)(fs:Fs)(ds:List D)(S:Sto):Out D:=match fs (ds.map (fun d=>some (false,d))++List.replicate (nN-ds.length) none) S with
 | .rt d S'=>.ok d S'
 | .nx _ S'=>if own then .bad else .ok .non S'
 | .ex c _ S'=>.exc c S'
 | _=>.bad
def zam(G:Genv)(own:Bool)(N:List Str)(st:Stmt):Option Fs:=blk (znK G own 40 true (zac st).names N) (zbm st)
theorem znA{P:Program}{wo:PySem.World}{K:PySem.W.Frag}{mg:Z6}{base:Heap}{cl:Cf}{G:Genv}{k:Nat}{x qual:Str}{st:Stmt}{f:Addr}{fd:FuncData}{N ps:List Str}{own:Bool}{fs:Fs}(F:Fun K x qual st f fd)(S:FnScope N ps (zac st))(hG:GOk cl G P wo K mg base k)
  (hk:K=cl.K) (hP:P=cl.P) (hW:wo=cl.wo) (hd:zam G own N st=some fs):FnOk P wo K mg base (CXE P wo) (k+1) f fd ps (zgQ cl ps.length own (zbC N.length own fs)):=by
 obtain ⟨oc,od,kV,doc,pm,an,cdv,ct,osl,rfl,lk,hcd⟩:=F.ex;refine zs8 lk hcd S (fun vs H Q E h=>h.1) fun A outer s H vs Q E hr hsp=>?_
 refine ⟨tS cl (fun _=>E) own fs,?_,?_⟩
 ·have g:Gd cl G k (zlQ (CXE P wo) P wo K mg base N qual (zac st) f cdv A outer s H E) (zac st).names N (fun _=>E) true :=
   ⟨⟨hG,hr,rfl,fun pins σ H1 s1 e s' I q=>zsi pins σ H1 s1 e s' I q,rfl,hk,hP,hW,S.nd,fun x kd h=>⟨kd,h,.inl rfl⟩,fun x h=>h⟩,fun _=>rfl,S.kind,rfl,fun _=>PassesOwn.leaving,fun _ C pins σ H1 s1 e h' vs I mk q=>zkO C pins σ H1 s1 e h' vs I mk q,rfl,rfl⟩
  exact zjp (fun st f hst=>zgs 40 true _ _ g st f hst) hd
 ·obtain ⟨hl,B,w,ds,S0,rfl,W,sh,q⟩:=hsp;have hdl:ds.length=vs.length:=sh.length.symm;refine ⟨B,w,ds.map (fun d=>some (false,d))++List.replicate (N.length-ds.length) none,S0,rfl,⟨W,?_,fun i o d hi=>?_⟩,?_⟩
  ·unfold L2.zeQ;rw [yam,yam,yad,yad,yaG,yaG,hdl]
  ·by_cases hlt:i<ds.length
   ·rw [yay (by rw [yad];exact hlt),yal] at hi
    cases hdi:ds[i]? with
    | none=>rw [hdi] at hi;cases hi
    | some d' =>
     rw [hdi] at hi;cases hi;obtain ⟨v,e1,e2⟩:=sh.at hdi;refine ⟨v,?_,e2⟩;unfold L2.zeQ;rw [yay (by rw [yad];omega),yal,e1];rfl
   ·rw [yas (by rw [yad];omega),ya9] at hi
    split at hi<;>cases hi
  ·unfold zbC at q
   cases hf:fs (ds.map (fun d=>some (false,d))++List.replicate (N.length-ds.length) none) S0 with
   | bad=>rwa [hf] at q
   | bk _ _=>rw [hf] at q;exact q.elim
   | ct _ _=>rw [hf] at q;exact q.elim
   | rt d S'=>rwa [hf] at q
   | ex c ρ' S'=>rw [hf] at q;exact fun σ' w' R' F'=>q w' R'.wd F'
   | nx ρ' S' =>
    rw [hf] at q;dsimp only at q
    cases own with
    | true=>exact q.elim
    | false=>exact fun σ' w' R' F'=>q .non w' R'.wd F' .non
structure FunD(K:PySem.W.Frag)(x qual:Str)(st:Stmt)(f:Addr)(fd:FuncData)(items:Array Value):Prop where
 ex:∃(oc:Value) (od:Option Addr) (T:Addr) (o:Obj) (n:Nat) (kV doc pm:Value) (an:Option Addr) (cdv ct:Value) (osl:Array (Option Value)),
  fd=PySem.W.fnOf x qual (zbz st) (zbm st) (zac st) (.ref T) kV doc pm an cdv ct/\K.lookup f=some ⟨oc,od,.func fd,osl⟩/\PySem.W.codeIn K cdv qual=true/\K.lookup T=some o/\o.data=.seq items n
noncomputable def inC(j:Nat):Stmt->Stmt | .ClassDef _ _ _ b ..=>b.getD j (.Pass ⟨0,0,0,0⟩) | s=>s
def zs7{P:Program}{wo:PySem.World}{K:PySem.W.Frag}{mg:Z6}{base:Heap}{cl:Cf}{G:Genv}{k:Nat}{x qual:Str}{st:Stmt}{f:Addr}{fd:FuncData}{N ps:List Str}{own:Bool}{fs:Fs}{items:Array Value}(F:FunD K x qual st f fd items)(S:FnScope N ps (zac st))(hG:GOk cl G P wo K mg base k)
  (hk:K=cl.K) (hP:P=cl.P) (hW:wo=cl.wo) (hd:zam G own N st=some fs):FnOk P wo K mg base (CXE P wo) (k+1) f fd ps (zgQ cl ps.length own (zbC N.length own fs)):=by
 obtain ⟨oc,od,T,o,n,kV,doc,pm,an,cdv,ct,osl,rfl,lk,hcd,_⟩:=F.ex;refine zs8 lk hcd S (fun vs H Q E h=>h.1) fun A outer s H vs Q E hr hsp=>?_
 refine ⟨tS cl (fun _=>E) own fs,?_,?_⟩
 ·have g:Gd cl G k (zlQ (CXE P wo) P wo K mg base N qual (zac st) f cdv A outer s H E) (zac st).names N (fun _=>E) true :=
   ⟨⟨hG,hr,rfl,fun pins σ H1 s1 e s' I q=>zsi pins σ H1 s1 e s' I q,rfl,hk,hP,hW,S.nd,fun x kd h=>⟨kd,h,.inl rfl⟩,fun x h=>h⟩,fun _=>rfl,S.kind,rfl,fun _=>PassesOwn.leaving,fun _ C pins σ H1 s1 e h' vs I mk q=>zkO C pins σ H1 s1 e h' vs I mk q,rfl,rfl⟩
  exact zjp (fun st f hst=>zgs 40 true _ _ g st f hst) hd
 ·obtain ⟨hl,B,w,ds,S0,rfl,W,sh,q⟩:=hsp;have hdl:ds.length=vs.length:=sh.length.symm;refine ⟨B,w,ds.map (fun d=>some (false,d))++List.replicate (N.length-ds.length) none,S0,rfl,⟨W,?_,fun i o d hi=>?_⟩,?_⟩
  ·unfold L2.zeQ;rw [yam,yam,yad,yad,yaG,yaG,hdl]
  ·by_cases hlt:i<ds.length
   ·rw [yay (by rw [yad];exact hlt),yal] at hi
    cases hdi:ds[i]? with
    | none=>rw [hdi] at hi;cases hi
    | some d' =>
     rw [hdi] at hi;cases hi;obtain ⟨v,e1,e2⟩:=sh.at hdi;refine ⟨v,?_,e2⟩;unfold L2.zeQ;rw [yay (by rw [yad];omega),yal,e1];rfl
   ·rw [yas (by rw [yad];omega),ya9] at hi
    split at hi<;>cases hi
  ·unfold zbC at q
   cases hf:fs (ds.map (fun d=>some (false,d))++List.replicate (N.length-ds.length) none) S0 with
   | bad=>rwa [hf] at q
   | bk _ _=>rw [hf] at q;exact q.elim
   | ct _ _=>rw [hf] at q;exact q.elim
   | rt d S'=>rwa [hf] at q
   | ex c ρ' S'=>rw [hf] at q;exact fun σ' w' R' F'=>q w' R'.wd F'
   | nx ρ' S' =>
    rw [hf] at q;dsimp only at q
    cases own with
    | true=>exact q.elim
    | false=>exact fun σ' w' R' F'=>q .non w' R'.wd F' .non
structure Tab where
 con:List (Str×D)
 blt:List Str
 exc:List Str
 und:List (Str×Str)
 rz:List Str
 fk:List (Str×Str)
 df:List Str
 ds:List Str
noncomputable def zvi(rz exc:List Str)(c C:Str):Option Bool:=if rz.contains c then (if C = "ValueError" then some true else if exc.contains C then some (decide (C=c)||decide (C = "FloorError")) else none) else none
noncomputable def zwF(l:List (Str×Str))(c C:Str):Bool:=l.contains (c,C)
structure Fn3 where
 cur:Str
 fs:List (Str×FnI)
 ms:List (Str×Str×FnI)
 ks:List (Str×List D×FnI)
def Gn(T:Tab)(F:Fn3):Genv:=⟨fun x=>T.con.lookup x,fun x=>F.fs.lookup x,fun x=>T.blt.contains x,fun x=>T.exc.contains x,zwF T.und,zvi T.rz T.exc,⟨F.cur,zwF T.fk,fun f=>T.df.contains f,fun m=>F.ms.lookup m,fun c=>F.ks.lookup c⟩,fun x=>T.ds.contains x⟩
noncomputable def Fn3.fn(F:Fn3)(x:Str)(fi:FnI):Fn3:=⟨F.cur,(x,fi)::F.fs,F.ms,F.ks⟩
noncomputable def Fn3.mt(F:Fn3)(m c:Str)(fi:FnI):Fn3:=⟨F.cur,F.fs,(m,c,fi)::F.ms,F.ks⟩
noncomputable def Fn3.cls(F:Fn3)(c:Str)(dds:List D)(fi:FnI):Fn3:=⟨F.cur,F.fs,F.ms,(c,dds,fi)::F.ks⟩
noncomputable def Fn3.at(F:Fn3)(c:Str):Fn3:=⟨c,F.fs,F.ms,F.ks⟩
section
variable{cl:Cf}{T:Tab}{P:Program}{wo:PySem.World}{K:PySem.W.Frag}{mg:Z6}{base:Heap}{k:Nat}{fs:Fn3}
def zcm{α:Type}{x y:Str}{a:α}{l:List (Str×α)}{b:α}(h:((x,a)::l).lookup y=some b):(y=x/\b=a)\/l.lookup y=some b:=by
 rw [yaz] at h
 cases e:y == x with
 | true=>rw [e] at h;cases h;exact .inl ⟨eq_of_beq e,rfl⟩
 | false=>rw [e] at h;exact .inr h
def zfN{α:Type}{p:α->Prop}:∀x∈([]:List α),p x:=fun _ h=>nomatch h
def zaw{α:Type}{p:α->Prop}{a:α}{l:List α}(h:p a)(t:∀x∈l,p x):∀x∈a::l,p x:=fun x hx=>(yau.mp hx).elim (fun e=>e ▸ h) (t x)
theorem zhi{α:Type}{x:Str}{a:α}:∀{l:List (Str×α)},l.lookup x=some a->(x,a)∈l
 | [],h=>by cases h
 | (y,b)::l,h=>by
  rcases zcm h with ⟨rfl,rfl⟩ | h
  ·exact yaA
  ·exact yaw _ (zhi h)
noncomputable def zvR(K:PySem.W.Frag)(cl:Cf)(exc:List Str)(c:Str):Prop:=PySem.W.ExcCls K (cl c)/\PySem.W.kitOne K (.ref (cl c)) (.type "ValueError")=some true/\∀C∈exc,PySem.W.kitOne K (.ref (cl c)) (.ref (cl C))=some (decide (C=c)||decide (C = "FloorError"))
def zzB(hc:∀p∈T.con,∃v u,mg p.1=some u/\zbr v u/\∀w,Shd cl w v p.2)(hb:∀x∈T.blt,mg x=none)(he:∀c∈T.exc,mg c=some (.ref (cl c))/\PySem.W.excIn K (cl c) bmV "ValueError.__new__" = true)(hu:∀p∈T.und,L2.zqR K (cl p.1) (cl p.2))(hx:∀c∈T.rz,zvR K cl T.exc c)(hfk:∀p∈T.fk,Cls cl.K (cl p.1)/\zdF cl.K (cl p.1) p.2):GOk cl (Gn T ⟨"",[],[],[]⟩) P wo K mg base 0 where
 fk:=fun c f h=>hfk (c,f) (by simpa using (show T.fk.contains (c,f)=true from h))
 mt:=fun m c fi h=>by cases h
 mks:=fun c dds fi h=>by cases h
 con:=fun x d h=>hc (x,d) (zhi h)
 fn:=fun x fi h=>by cases h
 blt:=fun x h=>hb x (by simpa using (show T.blt.contains x=true from h))
 exc:=fun c h=>he c (by simpa using (show T.exc.contains c=true from h))
 und:=fun c C h=>hu (c,C) (by simpa using (show T.und.contains (c,C)=true from h))
 isx:=fun c C b h=>by
  have h':zvi T.rz T.exc c C=some b:=h;unfold zvi at h';split at h'
  ·rename_i hc;obtain ⟨x1,x2,x3⟩:=hx c (by simpa using hc);refine ⟨x1,?_⟩;unfold zxV;split at h'
   ·rename_i hC;cases h';rw [if_pos hC];exact x2
   ·rename_i hC;rw [if_neg hC];split at h'
    ·rename_i hm;cases h';exact x3 C (by simpa using hm)
    ·cases h'
  ·cases h'
def GOk.add(g:GOk cl (Gn T fs) P wo K mg base k)(m:mg x=some (.ref f))(kp:PySem.W.keepIn K (.ref f)=true)(b:zce K fd ps [])(F:FnOk P wo K mg base (CXE P wo) (k+1) f fd ps (zgQ cl fi.ar fi.own fi.run)) :
  GOk cl (Gn T (fs.fn x fi)) P wo K mg base (k+1) where
 con:=g.con
 fn:=fun y fj h=>by
  rcases zcm h with ⟨rfl,rfl⟩ | h
  ·exact ⟨f,fd,ps,m,kp,b,F⟩
  ·obtain ⟨f',fd',ps',h1,h2,h3,h4⟩:=g.fn y fj h;exact ⟨f',fd',ps',h1,h2,h3,h4.mono (ybR _)⟩
 blt:=g.blt
 exc:=g.exc
 und:=g.und
 isx:=g.isx
 fk:=g.fk
 mt:=fun m c fi h=>by
  obtain ⟨f',fd',ps',h1,h2,h3,h4⟩:=g.mt m c fi h;exact ⟨f',fd',ps',h1,h2,h3,h4.mono (ybR _)⟩
 mks:=fun c dds fi h=>by
  obtain ⟨f',fd',ps',dvs,ds,k',hk,z⟩:=g.mks c dds fi h;exact ⟨f',fd',ps',dvs,ds,k',Nat.le_succ_of_le hk,z⟩
theorem GOk.at(g:GOk cl (Gn T fs) P wo K mg base k)(c:Str):GOk cl (Gn T (fs.at c)) P wo K mg base k:=⟨g.con,g.fn,g.blt,g.exc,g.und,g.isx,g.fk,g.mt,g.mks⟩
def GOk.up(g:GOk cl (Gn T fs) P wo K mg base k)(hk:k<=k'):GOk cl (Gn T fs) P wo K mg base k' where
 con:=g.con
 fn:=fun y fj h=>by
  obtain ⟨f',fd',ps',h1,h2,h3,h4⟩:=g.fn y fj h;exact ⟨f',fd',ps',h1,h2,h3,h4.mono hk⟩
 blt:=g.blt
 exc:=g.exc
 und:=g.und
 isx:=g.isx
 fk:=g.fk
 mt:=fun m c fi h=>by
  obtain ⟨f',fd',ps',h1,h2,h3,h4⟩:=g.mt m c fi h;exact ⟨f',fd',ps',h1,h2,h3,h4.mono hk⟩
 mks:=fun c dds fi h=>by
  obtain ⟨f',fd',ps',dvs,ds,j,hj,z⟩:=g.mks c dds fi h;exact ⟨f',fd',ps',dvs,ds,j,yak hj hk,z⟩
def GOk.addM(g:GOk cl (Gn T fs) P wo K mg base k)(cc:Cls K (cl c))(hm:Meth K (cl c) m f)(b:zce K fd ps [])(F:FnOk P wo K mg base (CXE P wo) k f fd ps (zgQ cl fi.ar fi.own fi.run)) :
  GOk cl (Gn T (fs.mt m c fi)) P wo K mg base k where
 con:=g.con
 fn:=g.fn
 blt:=g.blt
 exc:=g.exc
 und:=g.und
 isx:=g.isx
 fk:=g.fk
 mt:=fun m' c' fi' h=>by
  rcases zcm h with ⟨rfl,e⟩ | h
  ·cases e;exact ⟨f,fd,ps,cc,hm,b,F⟩
  ·exact g.mt m' c' fi' h
 mks:=g.mks
def GOk.addK(g:GOk cl (Gn T fs) P wo K mg base k)(hk:k'+1<=k)(hm:mg c=some (.ref (cl c)))(M:Mk K (cl c) f)(b0:zce K fd ps [])(bD:zce K fd ps ds)(vd:Vals dvs ds)(sd:∀w,Shds cl w dvs dds)(F:FnOk P wo K mg base (CXE P wo) k' f fd ps (zgQ cl fi.ar false fi.run)) :
  GOk cl (Gn T (fs.cls c dds fi)) P wo K mg base k where
 con:=g.con
 fn:=g.fn
 blt:=g.blt
 exc:=g.exc
 und:=g.und
 isx:=g.isx
 fk:=g.fk
 mt:=g.mt
 mks:=fun c' dds' fi' h=>by
  rcases zcm h with ⟨rfl,e⟩ | h
  ·cases e;exact ⟨f,fd,ps,dvs,ds,k',hk,hm,M,b0,bD,vd,sd,F⟩
  ·exact g.mks c' dds' fi' h
noncomputable def zmF(nN:Nat)(own:Bool)(body:(List D->Sto->Out D)->Fs):Nat->List D->Sto->Out D
 | 0=>fun _ _=>.bad
 | n+1=>zbC nN own (body (zmF nN own body n))
def zn7(h:zgQ cl n own (fun _ _=>.bad) vs H Q E):False:=by
 obtain ⟨_,B,w,ds,S,_,_,_,q⟩:=h;exact q
theorem GOk.addR{m c qual:Str}{st:Stmt}{f:Addr}{fd:FuncData}{N ps:List Str}{own:Bool}{body:(List D->Sto->Out D)->Fs}(g:GOk cl (Gn T fs) P wo K mg base k)(U:Fun K m qual st f fd)(S:FnScope N ps (zac st))(hK:K=cl.K)(hP:P=cl.P)(hW:wo=cl.wo)(cc:Cls K (cl c))(hm:Meth K (cl c) m f)(b:zce K fd ps [])
  (hd:∀r,zam (Gn T ((fs.mt m c ⟨ps.length,own,r⟩).at c)) own N st=some (body r)):∀n,GOk cl (Gn T (fs.mt m c ⟨ps.length,own,zmF N.length own body n⟩)) P wo K mg base (k+n)
 | 0=>g.addM cc hm b ⟨fun vs H Q E h=>(zn7 h).elim,fun A outer s H args us vs Q E hr he hb hv h=>(zn7 h).elim⟩
 | n+1=>(g.up (Nat.le_add_right k (n+1))).addM cc hm b (znA U S ((g.addR U S hK hP hW cc hm b hd n).at c) hK hP hW (hd _))
end
noncomputable def zms(K:PySem.W.Frag):Sp:=fun vs H Q _=>∃(a:Addr) (ns:List Int),vs=[.ref a]/\ns.length<=63/\zt3 H/\SqL K H a (ns.map V.int)/\∀H',Q (.bl true) H'
def zsL{cl:Cf}{run:List D->Sto->Out D}(hr:∀l:List Int,l.length<=63->∃S,run [.scr l] []=.ok (.bl true) S):∀vs H Q E,zms cl.K vs H Q E->zgQ cl 1 false run vs H Q E:=by
 rintro vs H Q E ⟨a,ns,rfl,hl,hO,hS,q⟩;refine ⟨rfl,⟨fun _=>none,fun _=>none⟩,⟨H,fun _=>none,[]⟩,[.scr ns],[],rfl,⟨(fun a o h=>by cases h),(fun a r h=>by cases h),rfl,(fun n ob h=>by simp at h)⟩,.cons ?_ .nil,?_⟩
 ·rcases hS with (hS | ⟨o,hS⟩) | hS
  ·rcases hO a with z | ⟨o,xs,z⟩
   ·rw [hS] at z;cases z
   ·rw [hS] at z;cases z
  ·exact .scr hS rfl
  ·exact .scrK fun H=>.inr hS
 ·obtain ⟨S',e⟩:=hr ns hl;rw [e];intro v w' _ _ r;have r':Shd cl w' v (.bl true):=r;cases r';exact q _
structure FnT(K:PySem.W.Frag)(x q:Str)(st:Stmt)(f:Addr):Prop where
 ex:∃(oc:Value) (od:Option Addr) (kV dc pm:Value) (an:Option Addr) (cd ct:Value) (sl:Array (Option Value)),K.lookup f=some ⟨oc,od,.func (PySem.W.fnOf x q (zbz st) (zbm st) (zac st) .none kV dc pm an cd ct),sl⟩/\PySem.W.codeIn K cd q=true/\PySem.W.keepIn K (.ref f)=true/\PySem.W.isFn K (.ref f)=true
structure GFn(K:PySem.W.Frag)(x:Str)(st:Stmt):Prop where
 ex:∃f,PySem.W.nsIn K mainGlobals x=some (some (.ref f))/\FnT K x x st f
structure MFn(K:PySem.W.Frag)(C:Addr)(m q:Str)(st:Stmt):Prop where
 ex:∃f,PySem.W.findIn K (.ref C) m=some (some (.ref f))/\FnT K m q st f
noncomputable def BB(x q:Str)(st:Stmt)(ps:List Str):Prop:=∀(kV doc pm:Value) (an:Option Addr) (cdv ct:Value) (us:List Value),us.length=ps.length->bindArgs (PySem.W.fnOf x q (zbz st) (zbm st) (zac st) .none kV doc pm an cdv ct) ⟨us,[]⟩=pure (ps.zip us)
def bb0{p:List Value->Prop}(h:p []):∀us:List Value,us.length=0->p us:=fun us e=>by rw [ybq e];exact h
def bbS{n:Nat}{p:List Value->Prop}(h:∀a:Value,∀us:List Value,us.length=n->p (a::us)):∀us:List Value,us.length=n+1->p us:=fun us e=>by
 cases us with
 | nil=>cases e
 | cons a us=>exact h a us (Nat.succ.inj e)
def bb1{p:List Value->Prop}(h:∀a0:Value,p [a0]):∀us:List Value,us.length=1->p us:=bbS fun a0=>bb0 (h a0)
def bb2{p:List Value->Prop}(h:∀a0 a1:Value,p [a0,a1]):∀us:List Value,us.length=2->p us:=bbS fun a0=>bbS fun a1=>bb0 (h a0 a1)
def bb3{p:List Value->Prop}(h:∀a0 a1 a2:Value,p [a0,a1,a2]):∀us:List Value,us.length=3->p us:=bbS fun a0=>bbS fun a1=>bbS fun a2=>bb0 (h a0 a1 a2)
def bb4{p:List Value->Prop}(h:∀a0 a1 a2 a3:Value,p [a0,a1,a2,a3]):∀us:List Value,us.length=4->p us:=bbS fun a0=>bbS fun a1=>bbS fun a2=>bbS fun a3=>bb0 (h a0 a1 a2 a3)
def bb6{p:List Value->Prop}(h:∀a0 a1 a2 a3 a4 a5:Value,p [a0,a1,a2,a3,a4,a5]):∀us:List Value,us.length=6->p us:=bbS fun a0=>bbS fun a1=>bbS fun a2=>bbS fun a3=>bbS fun a4=>bbS fun a5=>bb0 (h a0 a1 a2 a3 a4 a5)
section
variable{cl:Cf}{T:Tab}{P:Program}{wo:PySem.World}{K:PySem.W.Frag}{mg:Z6}{base:Heap}{k:Nat}{fs:Fn3}
def FnT.un{x q:Str}{st:Stmt}{f:Addr}{ps:List Str}(p:FnT K x q st f)(b:BB x q st ps):∃fd,Fun K x q st f fd/\zce K fd ps []/\PySem.W.keepIn K (.ref f)=true/\PySem.W.isFn K (.ref f)=true:=by
 obtain ⟨oc,od,kV,dc,pm,an,cd,ct,sl,l,c,kp,i⟩:=p.ex;have U:=zoy (st:=st) l c kp;exact ⟨_,U,U.binds b,kp,i⟩
def GOk.addG{x:Str}{st:Stmt}{N ps:List Str}{own:Bool}{f_:Fs}{h:Heap}(g:GOk cl (Gn T fs) P wo K mg base k)(X:K.In h)(G:h.Ns mainGlobals mg)(p:GFn K x st)(S:FnScope N ps (zac st))(hK:K=cl.K)(hP:P=cl.P)(hW:wo=cl.wo)(b:BB x x st ps)(hd:zam (Gn T fs) own N st=some f_) :
  GOk cl (Gn T (fs.fn x ⟨ps.length,own,zbC N.length own f_⟩)) P wo K mg base (k+1):=by
 obtain ⟨f,a,p⟩:=p.ex;obtain ⟨fd,U,B,kp,_⟩:=p.un b;exact GOk.add g (ybt X G a) kp B (znA U S g hK hP hW hd)
def GOk.addMG{m c q:Str}{st:Stmt}{N ps:List Str}{own:Bool}{f_:Fs}(g:GOk cl (Gn T fs) P wo K mg base k)(cc:Cls K (cl c))(p:MFn K (cl c) m q st)(S:FnScope N ps (zac st))(hK:K=cl.K)(hP:P=cl.P)(hW:wo=cl.wo)(b:BB m q st ps)(hd:zam (Gn T (fs.at c)) own N st=some f_) :
  GOk cl (Gn T (fs.mt m c ⟨ps.length,own,zbC N.length own f_⟩)) P wo K mg base (k+1):=by
 obtain ⟨f,a,p⟩:=p.ex;obtain ⟨fd,U,B,kp,i⟩:=p.un b;exact GOk.addM (g.up (ybR _)) cc ⟨a,i,kp⟩ B (znA U S (g.at c) hK hP hW hd)
def GOk.addRG{m c q:Str}{st:Stmt}{N ps:List Str}{own:Bool}{body:(List D->Sto->Out D)->Fs}(g:GOk cl (Gn T fs) P wo K mg base k)(cc:Cls K (cl c))(p:MFn K (cl c) m q st)(S:FnScope N ps (zac st))(hK:K=cl.K)(hP:P=cl.P)(hW:wo=cl.wo)(b:BB m q st ps)
  (hd:∀r,zam (Gn T ((fs.mt m c ⟨ps.length,own,r⟩).at c)) own N st=some (body r)) (n:Nat):GOk cl (Gn T (fs.mt m c ⟨ps.length,own,zmF N.length own body n⟩)) P wo K mg base (k+n):=by
 obtain ⟨f,a,p⟩:=p.ex;obtain ⟨fd,U,B,kp,i⟩:=p.un b;exact GOk.addR g U S hK hP hW cc ⟨a,i,kp⟩ B hd n
end
open PySem
open L2 hiding D
noncomputable def zbY:Fs :=
  (zaj (sFz [] (za6 (zgr (eUn (zeB "tuple") (zak 0)) (zcT leD leD (zak 1) (zas zcH [(zak 0)]) (zak 2)))))
  sNx)
noncomputable def zat:List S2.D->Sto->Out S2.D:=zbC 3 false zbY
noncomputable def zfj:Fs :=
  (zaj (sFz [] (zbV 1 false (eIf (zaf gtD (zas zcH [(zak 0)]) (zae (.int 0))) (zas zcH [(zaf ixD (zak 0) (zae (.int 0)))]) (zae (.int 0)))))
  (zaj (sFz [1] (za6 (zdd [(zas zcH [(zak 0)]),(zad 1)])))
  sNx))
noncomputable def zbN:List S2.D->Sto->Out S2.D:=zbC 2 false zfj
noncomputable def zb0:Fs :=
  (zaj (sFz [3,4] (ziH 2 (zdd [(zad 3),(zad 4)]))) sNx)
noncomputable def zcO:Fs :=
  (zaj (sFz [] (zgW (.one 4) (zeC (zaf ixD (zak 1) (zae (.int 1)))) zb0)) sNx)
noncomputable def zdL:Fs :=
  (zaj (sFz [0] (zbV 1 false (eFn zbN [(zad 0)])))
  (zaj (sFz [] (zbV 2 true (zfn [])))
  (zaj (sFz [] (zgW (.one 3) (zeC (zaf ixD (zak 1) (zae (.int 0)))) zcO))
  (zaj (sFz [] (zh0 2))
  sNx))))
noncomputable def zaX:List S2.D->Sto->Out S2.D:=zbC 5 true zdL
noncomputable def zdM:Fs :=
  (zaj (sFz [] (za6 (zaf ixD (zaf ixD (zak 0) (zaf ixD (zak 1) (zae (.int 0)))) (zaf ixD (zak 1) (zae (.int 1))))))
  sNx)
noncomputable def zaC:List S2.D->Sto->Out S2.D:=zbC 2 false zdM
noncomputable def zcL:Fs :=
  (zaj (sFz [0,0] (za6 (zca 1 (.one 0) (zax (eFn zaX [(zad 0)])) (zaf zib (eFn zaC [(zad 1),(zad 0)]) (zae .non)) (zad 0) [0])))
  sNx)
noncomputable def zbX:List S2.D->Sto->Out S2.D:=zbC 1 true zcL
noncomputable def zb6:Fs :=
  (zaj (sFz [] (sIf (zaf ltD (zak 1) (zas zcH [(zak 0)])) (zaj (sFz [] (za6 (zaf ixD (zak 0) (zak 1)))) sNx) sNx))
  (zaj (sFz [] (sIf (zaf eqD (zak 0) (zfn [])) (zaj (sFz [] (za6 (zae (.int 0)))) sNx) sNx))
  (zaj (sFz [] (za6 (zaf zcz (zaf zi3 (zaf ixD (zak 0) (zaf zmk (zak 1) (zas zcH [(zak 0)]))) (zae (.int 31))) (zak 1))))
  sNx)))
noncomputable def zbF:List S2.D->Sto->Out S2.D:=zbC 2 false zb6
noncomputable def zdO:Fs :=
  (zaj (sFz [0,1] (zbV 3 false (zaf zmk (zaf zi3 (zaf zcz (eFn zbF [(zad 0),(zad 1)]) (zaf zi3 (zae (.int 6151)) (zaf zcz (zak 1) (zae (.int 1))))) (zae (.int 40692))) (zae (.int 2147483399)))))
  (zaj (sFz [] (za6 (zaf zmk (zaf zmk (zaf zcz (zaf zi3 (zak 3) (zak 3)) (zaf zti (zak 3) (zae (.int 31)))) (zae (.int 2147483629))) (zak 2))))
  sNx))
noncomputable def zan:List S2.D->Sto->Out S2.D:=zbC 4 false zdO
noncomputable def zbh:Fs :=
  (zaj (sFz [1,3,5,0] (zbV 6 false (zas zcf [(zca 1 (.one 0) (zeC (zae (.int 4))) zdE (eFn zan [(zad 4),(zaf zcz (zaf zcz (zaf zcz (zak 1) (zaf zi3 (zae (.int 4)) (zak 3))) (zae (.int 2))) (zak 0)),(zad 2)]) [1,3,5,0])]))) (zaj (sFz [0] (sIf (zaf eqD (eFn zan [(zad 0),(zaf zcz (zaf zcz (zak 1) (zae (.int 60))) (zak 5)),(zae (.int 3))]) (zae (.int 0))) (zaj (sFz [] (zbV 6 false (zdd [(zaf ixD (zak 6) (zae (.int 0))),(zaf ixD (zak 6) (zae (.int 1))),(zaf ixD (zak 6) (zae (.int 0))),(zaf ixD (zak 6) (zae (.int 1)))]))) sNx) sNx)) (zaj (sFz [] (sIf (zaf zkd (zak 6) (zak 4)) (zaj (sFz [6] (ziH 4 (zad 6))) sNx) sNx)) sNx)))
noncomputable def zda:Fs :=
  (zaj (sFz [0,1] (zbV 3 false (zaf zcz (zae (.int 2)) (eFn zan [(zad 0),(zad 1),(zae (.int 2))]))))
  (zaj (sFz [] (zbV 4 true (zfn [])))
  (zaj (sFz [0,2] (zgW (.one 5) (zeC (zaf zcz (zae (.int 1)) (eFn zan [(zad 0),(zaf zcz (zak 1) (zae (.int 1))),(zad 2)]))) zbh))
  (zaj (sFz [] (za6 (zas zcf [(zak 4)])))
  sNx))))
noncomputable def zci:List S2.D->Sto->Out S2.D:=zbC 7 false zda
noncomputable def zbi:Fs :=
  (zaj (sFz [0] (zbV 10 false (eFn zan [(zad 0),(zaf zcz (zaf zcz (zak 1) (zaf zi3 (zae (.int 7)) (zak 7))) (zak 9)),(zaf zi3 (zas zcH [(zak 2)]) (zak 5))]))) (zaj (sFz [10] (ziH 8 (eIf (zaf ltD (zak 10) (zas zcH [(zak 2)])) (zad 10) (zae .non)))) sNx))
noncomputable def zcy:Fs :=
  (zaj (sFz [] (zbV 8 true (zfn []))) (zaj (sFz [4] (zgW (.one 9) (zeC (zad 4)) zbi)) (zaj (sFz [] (ziH 6 (zas zcf [(zak 8)]))) sNx)))
noncomputable def zdc:Fs :=
  (zaj (sFz [] (zbV 6 true (zfn [])))
  (zaj (sFz [3] (zgW (.one 7) (zeC (zad 3)) zcy))
  (zaj (sFz [] (za6 (zas zcf [(zak 6)])))
  sNx)))
noncomputable def zbp:List S2.D->Sto->Out S2.D:=zbC 11 false zdc
noncomputable def zb5:Fs :=
  (zaj (sFz [0,1,0] (zqV 3 4 false (zaf zcz (zae (.int 1)) (eFn zan [(zad 0),(zad 1),(zae (.int 4))])) false (zaf zcz (zae (.int 1)) (eFn zan [(zad 0),(zaf zcz (zak 1) (zae (.int 1))),(zae (.int 4))]))))
  (zaj (sFz [0,2,3,4,0] (za6 (eFn zbp [(zad 0),(zaf zcz (zak 1) (zae (.int 2))),(zad 2),(zad 3),(zad 4),(zaf ixD (zfn [(zae (.int 1)),(zae (.int 2)),(zae (.int 3))]) (eFn zan [(zad 0),(zaf zcz (zak 1) (zae (.int 50))),(zae (.int 3))]))])))
  sNx))
noncomputable def zaO:List S2.D->Sto->Out S2.D:=zbC 5 false zb5
noncomputable def zdt:Fs :=
  (zaj (sFz [] (za6 (zgr (eUn (zeB "int") (zak 0)) (eUn zet (eUn (zeB "bool") (zak 0))))))
  sNx)
noncomputable def zaU:List S2.D->Sto->Out S2.D:=zbC 1 false zdt
noncomputable def zcp:Fs :=
  (zaj (sFz [1] (za6 (zgr (eFn zaU [(zad 1)]) (zcT leD ltD (zae (.int 0)) (zak 1) (zas zcH [(zak 0)])))))
  sNx)
noncomputable def zaz:List S2.D->Sto->Out S2.D:=zbC 2 false zcp
noncomputable def zdN:Fs :=
  (zaj (sFz [1] (sIf (eOr (eUn zet (eFn zat [(zad 1),(zae (.int 2)),(zae (.int 2))])) (eOr (eUn zet (eFn zaU [(zaf ixD (zak 1) (zae (.int 0)))])) (eUn zet (eFn zaU [(zaf ixD (zak 1) (zae (.int 1)))])))) (zaj (sFz [] (za6 (zae (.bl false)))) sNx) sNx))
  (zaj (sFz [0] (zbV 2 false (eFn zbN [(zad 0)])))
  (zaj (sFz [] (za6 (zgr (zcT leD ltD (zae (.int 0)) (zaf ixD (zak 1) (zae (.int 0))) (zaf ixD (zak 2) (zae (.int 0)))) (zcT leD ltD (zae (.int 0)) (zaf ixD (zak 1) (zae (.int 1))) (zaf ixD (zak 2) (zae (.int 1)))))))
  sNx)))
noncomputable def zbD:List S2.D->Sto->Out S2.D:=zbC 3 false zdN
noncomputable def zc8:Fs :=
  (zaj (sFz [1,2,0,1,2] (sIf (eOr (eUn zet (eFn zbD [(zad 1),(zad 2)])) (eUn zet (eFn zaz [(zad 0),(eFn zaC [(zad 1),(zad 2)])]))) (zaj (sFz [] (za6 (zae .non))) sNx) sNx))
  (zaj (sFz [1,2] (za6 (zaf ixD (zaf ixD (zak 0) (eFn zaC [(zad 1),(zad 2)])) (zak 3))))
  sNx))
noncomputable def zaJ:List S2.D->Sto->Out S2.D:=zbC 4 false zc8
noncomputable def zcv:Fs :=
  (zaj (sFz [] (zbV 3 false (zdd [(zaf ixD (zak 2) (zae (.int 0))),(zaf zcz (zaf ixD (zak 2) (zae (.int 1))) (zae (.int 1)))])))
  (zaj (sFz [0,1,2,0,1,3] (za6 (zdd [(eFn zaJ [(zad 0),(zad 1),(zad 2),(zae (.int 1))]),(eFn zaJ [(zad 0),(zad 1),(zad 3),(zae (.int 3))])])))
  sNx))
noncomputable def zbd:List S2.D->Sto->Out S2.D:=zbC 4 false zcv
noncomputable def zb4:Fs :=
  (zaj (sFz [] (zbV 3 false (zdd [(zaf zcz (zaf ixD (zak 2) (zae (.int 0))) (zae (.int 1))),(zaf ixD (zak 2) (zae (.int 1)))])))
  (zaj (sFz [0,1,2,0,1,3] (za6 (zdd [(eFn zaJ [(zad 0),(zad 1),(zad 2),(zae (.int 2))]),(eFn zaJ [(zad 0),(zad 1),(zad 3),(zae (.int 0))])])))
  sNx))
noncomputable def zaY:List S2.D->Sto->Out S2.D:=zbC 4 false zb4
noncomputable def zek:Fs :=
  (zaj (sFz [] (za6 (zgr (zaf zkd (zae .non) (zak 0)) (zaf neD (zaf ixD (zak 0) (zae (.int 0))) (zaf ixD (zak 0) (zae (.int 1)))))))
  sNx)
noncomputable def zcE:List S2.D->Sto->Out S2.D:=zbC 1 false zek
noncomputable def zdR:Fs :=
  (zaj (sFz [0,1,3] (sIf (eFn zcE [(eFn zbd [(zad 0),(zad 1),(zad 3)])]) (zaj (sFz [3] (ziH 2 (zdd [(zad 3),(zae (.str "east"))]))) sNx) sNx)) (zaj (sFz [0,1,3] (sIf (eFn zcE [(eFn zaY [(zad 0),(zad 1),(zad 3)])]) (zaj (sFz [3] (ziH 2 (zdd [(zad 3),(zae (.str "south"))]))) sNx) sNx)) sNx))
noncomputable def zfl:Fs :=
  (zaj (sFz [] (zbV 2 true (zfn [])))
  (zaj (sFz [1] (zgW (.one 3) (zax (eFn zaX [(zad 1)])) zdR))
  (zaj (sFz [] (zh0 2))
  sNx)))
noncomputable def zcX:List S2.D->Sto->Out S2.D:=zbC 4 true zfl
noncomputable def zdb:Fs :=
  (zaj (sFz [0,1] (za6 (zaf ixD (zfn [(zdd [(zae (.int 1)),(zae (.int 1))]),(zdd [(zae (.int 1)),(zae (.int 2))]),(zdd [(zae (.int 2)),(zae (.int 1))]),(zdd [(zae (.int 2)),(zae (.int 2))]),(zdd [(zae (.int 2)),(zae (.int 2))]),(zdd [(zae (.int 1)),(zae (.int 4))]),(zdd [(zae (.int 2)),(zae (.int 3))]),(zdd [(zae (.int 3)),(zae (.int 2))]),(zdd [(zae (.int 3)),(zae (.int 1))]),(zdd [(zae (.int 2)),(zae (.int 3))])]) (eFn zan [(zad 0),(zad 1),(zae (.int 10))]))))
  sNx)
noncomputable def zcj:List S2.D->Sto->Out S2.D:=zbC 2 false zdb
noncomputable def zdh:Fs :=
  (zaj (sFz [0,1,3] (ziH 2 (eFn zbd [(zad 0),(zad 1),(zad 3)]))) (zaj (sFz [0,1,3] (ziH 2 (eFn zaY [(zad 0),(zad 1),(zad 3)]))) sNx))
noncomputable def zeg:Fs :=
  (zaj (sFz [] (zbV 2 true (zfn [])))
  (zaj (sFz [1] (zgW (.one 3) (zax (eFn zaX [(zad 1)])) zdh))
  (zaj (sFz [2] (za6 (zca 1 (.one 0) (zax (zad 2)) (zaf zkd (zae .non) (zak 0)) (zad 0) [])))
  sNx)))
noncomputable def zdn:List S2.D->Sto->Out S2.D:=zbC 4 true zeg
noncomputable def zik:Fs :=
  (zaj (sFz [0,1] (zbV 2 true (eFn zdn [(zad 0),(zad 1)])))
  (zaj (sFz [2] (zbV 3 true (zca 1 (.one 0) (zax (zad 2)) (zaf eqD (zaf ixD (zak 0) (zae (.int 0))) (zaf ixD (zak 0) (zae (.int 1)))) (zad 0) [])))
  (zaj (sFz [] (za6 (zdd [(zas zcH [(zak 3)]),(zaf zrk (zas zcH [(zak 2)]) (zas zcH [(zak 3)]))])))
  sNx)))
noncomputable def ze0:List S2.D->Sto->Out S2.D:=zbC 4 false zik
noncomputable def zij:Fs :=
  (zaj (sFz [] (za6 (eOr (zaf zno (zak 0) (zae .non)) (zaf eqD (zak 0) (zak 1)))))
  sNx)
noncomputable def zeZ:List S2.D->Sto->Out S2.D:=zbC 2 false zij
noncomputable def zb8:Fs :=
  (zaj (sFz [1] (zf3 "Ways" "tiles" (zad 0) (zad 1)))
  (zaj (sFz [2,2] (zf3 "Ways" "ground" (zad 0) (zca 1 (.one 0) (zax (eFn zaX [(zad 2)])) zdE (eFn zaC [(zad 1),(zad 0)]) [2])))
  (zaj (sFz [2] (zf3 "Ways" "size" (zad 0) (eFn zbN [(zad 2)])))
  (zaj (sFz [3] (zf3 "Ways" "is_round" (zad 0) (zad 3)))
  (zaj (sFz [] (zjG "Ways" "known" 0))
  sNx)))))
noncomputable def zaZ:List S2.D->Sto->Out S2.D:=zbC 4 false zb8
noncomputable def zbK:Fs :=
  (zaj (sFz [] (za6 (zaf zi3 (zdd [(zae .non)]) (zaf zcz (zaf ixD (zfP "Ways" "size" (zad 0)) (zae (.int 1))) (zae (.int 2))))))
  sNx)
noncomputable def za2:List S2.D->Sto->Out S2.D:=zbC 1 false zbK
noncomputable def zb7:Fs :=
  (zaj (sFz [] (za6 (zaf eqD (zaf zmk (zaf zcz (zak 1) (zae (.int 1))) (zaf ixD (zfP "Ways" "size" (zad 0)) (zae (.int 1)))) (zae (.int 0)))))
  sNx)
noncomputable def zaL:List S2.D->Sto->Out S2.D:=zbC 2 false zb7
noncomputable def zaR:Fs :=
  (zaj (sFz [] (za6 (eIf (zaf eqD (zaf zmk (zak 1) (zaf ixD (zfP "Ways" "size" (zad 0)) (zae (.int 1)))) (zae (.int 0))) (zaf ixD (zak 3) (zae (.int 3))) (zaf ixD (zak 2) (eUn zop (zae (.int 1)))))))
  sNx)
noncomputable def zap:List S2.D->Sto->Out S2.D:=zbC 4 false zaR
noncomputable def zby:Fs :=
  (zaj (sFz [1] (zbV 4 false (zb9 "Ways" "ends_row" zaL (zad 0) [(zad 1)])))
  (zaj (sFz [] (zbV 5 false (zaf geD (zaf zcz (zak 1) (zaf ixD (zfP "Ways" "size" (zad 0)) (zae (.int 1)))) (zas zcH [(zfP "Ways" "ground" (zad 0))]))))
  (zaj (sFz [4] (zbV 6 false (eIf (zad 4) (zae .non) (zaf ixD (zak 3) (zae (.int 1))))))
  (zaj (sFz [5] (zbV 7 false (eIf (zad 5) (zae .non) (zaf ixD (zak 3) (zae (.int 2))))))
  (zaj (sFz [4,1,2,3] (zbV 8 false (eIf (zgr (zfP "Ways" "is_round" (zad 0)) (eUn zet (zad 4))) (zb9 "Ways" "colour_round" zap (zad 0) [(zad 1),(zad 2),(zad 3)]) (zae .non))))
  (zaj (sFz [6,7,8] (za6 (zaf zcz (zaf zcz (zdd [(zad 6)]) (eSl (zak 2) (some (zae (.int 2))) (some (eUn zop (zae (.int 1)))))) (zdd [(zad 7),(zad 8)]))))
  sNx))))))
noncomputable def zaV:List S2.D->Sto->Out S2.D:=zbC 9 false zby
noncomputable def zaW:Fs :=
  (zaj (sFz [] (zbV 2 false (zaf ixD (zfP "Ways" "ground" (zad 0)) (zak 1))))
  (zaj (sFz [] (sIf (zaf zno (zak 2) (zae .non)) (zaj (sFz [] (za6 (eUn lrD (zas zcH [(zfP "Ways" "tiles" (zad 0))])))) sNx) sNx))
  (zaj (sFz [2,2] (za6 (eIf (eFn zaz [(zfP "Ways" "tiles" (zad 0)),(zad 2)]) (zfn [(zad 2)]) (zfn []))))
  sNx)))
noncomputable def zaE:List S2.D->Sto->Out S2.D:=zbC 3 false zaW
noncomputable def za3:Fs :=
  (zaj (sFz [1] (sIf (eOr (eUn zet (zfP "Ways" "is_round" (zad 0))) (eUn zet (zb9 "Ways" "ends_row" zaL (zad 0) [(zad 1)]))) (zaj (sFz [] (za6 (zae (.bl true)))) sNx) sNx))
  (zaj (sFz [1,2,3] (za6 (zaf eqD (zaf ixD (zak 3) (zae (.int 1))) (zb9 "Ways" "colour_round" zap (zad 0) [(zad 1),(zad 2),(zad 3)]))))
  sNx))
noncomputable def zaK:List S2.D->Sto->Out S2.D:=zbC 4 false za3
noncomputable def zdP:Fs :=
  (zaj (sFz [] (sIf (eOr (eUn zet (eFn zeZ [(zaf ixD (zak 2) (zae (.int 0))),(zaf ixD (zak 3) (zae (.int 3)))])) (eUn zet (eFn zeZ [(zaf ixD (zak 2) (zae (.int 1))),(zaf ixD (zak 3) (zae (.int 0)))]))) (zaj (sFz [] (za6 (zae (.bl false)))) sNx) sNx))
  (zaj (sFz [1,2,3] (za6 (zb9 "Ways" "fits_round" zaK (zad 0) [(zad 1),(zad 2),(zad 3)])))
  sNx))
noncomputable def zcI:List S2.D->Sto->Out S2.D:=zbC 4 false zdP
noncomputable def zaS:Fs :=
  (zaj (sFz [] (zbV 5 false (zaf ixD (zfP "Ways" "tiles" (zad 0)) (zak 4)))) (zaj (sFz [1,2,5] (sIf (zb9 "Ways" "fits" zcI (zad 0) [(zad 1),(zad 2),(zad 5)]) (zaj (sFz [4,1,2,5] (ziH 3 (zdd [(zad 4),(zb9 "Ways" "seam_behind" zaV (zad 0) [(zad 1),(zad 2),(zad 5)])]))) sNx) sNx)) sNx))
noncomputable def zcw:Fs :=
  (zaj (sFz [] (zbV 3 true (zfn [])))
  (zaj (sFz [1] (zgW (.one 4) (zax (zb9 "Ways" "numbers_for" zaE (zad 0) [(zad 1)])) zaS))
  (zaj (sFz [] (zh0 3))
  sNx)))
noncomputable def zbM:List S2.D->Sto->Out S2.D:=zbC 6 true zcw
noncomputable def zai(rec_:List S2.D->Sto->Out S2.D):Fs :=
  (zaj (sFz [] (sIf (zaf eqD (zak 1) (zas zcH [(zfP "Ways" "ground" (zad 0))])) (zaj (sFz [] (za6 (zae (.int 1)))) sNx) sNx))
  (zaj (sFz [1,2] (zbV 3 false (zdd [(zad 1),(zad 2)])))
  (zaj (sFz [] (sIf (zoD "Ways" "known" (zad 3) (zad 0)) (zaj (sFz [1,2,0,1] (zjE "Ways" "known" (zad 0) 3 (zas zrj [(zca 1 (.one 0) (zax (zb9 "Ways" "choices" zbM (zad 0) [(zad 1),(zad 2)])) zdE (zb9 "Ways" "count_from" rec_ (zad 1) [(zaf zcz (zak 2) (zae (.int 1))),(zaf ixD (zak 0) (zae (.int 1)))]) [0,1])]))) sNx) sNx))
  (zaj (sFz [] (za6 (zjZ "Ways" "known" (zad 0) 3)))
  sNx))))
noncomputable def zbG:List S2.D->Sto->Out S2.D:=zmF 4 false zai 40
noncomputable def zbS:Fs :=
  (zaj (sFz [] (za6 (zb9 "Ways" "count_from" zbG (zad 0) [(zae (.int 0)),(zb9 "Ways" "first_seam" za2 (zad 0) [])])))
  sNx)
noncomputable def zbj:List S2.D->Sto->Out S2.D:=zbC 1 false zbS
noncomputable def zcM:Fs :=
  (zaj (sFz [0,1] (za6 (zb9 "Ways" "count_all" zbj (eMk "Ways" [(.bl false)] zaZ [(zad 0),(zad 1)]) [])))
  sNx)
noncomputable def zbv:List S2.D->Sto->Out S2.D:=zbC 2 false zcM
noncomputable def zd1:Fs :=
  (zaj (sFz [0,1] (za6 (eOr (zaf zno (zak 1) (zae .non)) (eFn zaz [(zad 0),(zad 1)]))))
  sNx)
noncomputable def zcC:List S2.D->Sto->Out S2.D:=zbC 2 false zd1
noncomputable def Fo.seq(b:Fs):Fo->Fo | .nx ρ' S'=>b ρ' S' | o=>o
def ztS(a b:Fs)(ρ:Env):Out D->Fo | .ok d S'=>(match isB d with | some true=>a ρ S' | some false=>b ρ S' | none=>.bad) | .exc x S'=>.ex x ρ S' | .bad=>.bad
noncomputable def zvg(i:Nat)(o:Bool)(ρ:Env):Out D->Fo | .ok d S'=>.nx (ρ.set i (some (o,d))) S' | .exc c S'=>.ex c ρ S' | .bad=>.bad
noncomputable def zve(ρ:Env):Out D->Fo | .ok _ S'=>.nx ρ S' | .exc c S'=>.ex c ρ S' | .bad=>.bad
noncomputable def zvc(ρ:Env):Out D->Fo | .ok d S'=>.rt d S' | .exc c S'=>.ex c ρ S' | .bad=>.bad
noncomputable def zsV(S:Sto):Option (Option (Bool×D))->Fo | some (some (true,d))=>.rt d S | _=>.bad
def znk(i:Nat)(ρ:Env)(l:List D):Out D->Fo
 | .ok d S'=>if zaH l.length then .nx (ρ.set i (some (true,.lst (l++[d])))) S' else .bad
 | .exc c S'=>.ex c ρ S' | .bad=>.bad
noncomputable def zxQ(i:Nat)(f:Fe)(ρ:Env)(S:Sto):Option (Option (Bool×D))->Fo | some (some (true,.lst l))=>znk i ρ l (f ρ S) | _=>.bad
def zqa(i:Nat)(ρ:Env)(l:List D):Out D->Fo
 | .ok (.lst k) S'=>if zaH (l.length+k.length) then .nx (ρ.set i (some (true,.lst (l++k)))) S' else .bad
 | .ok _ _=>.bad
 | .exc c S'=>.ex c ρ S' | .bad=>.bad
noncomputable def zzu(i:Nat)(f:Fe)(ρ:Env)(S:Sto):Option (Option (Bool×D))->Fo | some (some (true,.lst l))=>zqa i ρ l (f ρ S) | _=>.bad
noncomputable def zp8(i j:Nat)(o1 o2:Bool)(d1:D)(ρ:Env):Out D->Fo | .ok d2 S2=>.nx ((ρ.set i (some (o1,d1))).set j (some (o2,d2))) S2 | .exc c S'=>.ex c ρ S' | .bad=>.bad
noncomputable def zxH(i j:Nat)(o1 o2:Bool)(g:Fe)(ρ:Env):Out D->Fo | .ok d1 S1=>zp8 i j o1 o2 d1 ρ (g ρ S1) | .exc c S'=>.ex c ρ S' | .bad=>.bad
noncomputable def zvd(S:Sto):Option Env->Fo | some ρ'=>.nx ρ' S | none=>.bad
def zqe(t:Tg)(ρ:Env):Out D->Fo | .ok d S'=>zvd S' (t.put ρ d) | .exc c S'=>.ex c ρ S' | .bad=>.bad
noncomputable def zxM(t:Tg)(a:Fs)(ρ:Env):Out (List D)->Fo | .ok ds S'=>zfx t a ds ρ S' | .exc c S'=>.ex c ρ S' | .bad=>.bad
noncomputable def zxE(S:Sto):Option (Option (Bool×D))->Out D | some (some (false,d))=>.ok d S | _=>.bad
noncomputable def zxP(S:Sto):Option (Option (Bool×D))->Out D | some (some (_,d))=>.ok d S | _=>.bad
def kUn(u:D->Option D):Out D->Out D | .ok a S=>Out.of (u a) S | .exc c S=>.exc c S | .bad=>.bad
def zlw(u:D->D->Option D)(a:D):Out D->Out D | .ok b S=>Out.of (u a b) S | .exc c S=>.exc c S | .bad=>.bad
noncomputable def zvf(u:D->D->Option D)(g:Fe)(ρ:Env):Out D->Out D | .ok a S=>zlw u a (g ρ S) | .exc c S=>.exc c S | .bad=>.bad
def kIf(f g:Fe)(ρ:Env):Out D->Out D | .ok d S1=>(match isB d with | some true=>f ρ S1 | some false=>g ρ S1 | none=>.bad) | .exc c S=>.exc c S | .bad=>.bad
def zvh(g:Fe)(ρ:Env):Out D->Out D | .ok d S1=>(match isB d with | some true=>g ρ S1 | some false=>.ok (.bl false) S1 | none=>.bad) | .exc c S=>.exc c S | .bad=>.bad
def kOr(g:Fe)(ρ:Env):Out D->Out D | .ok d S1=>(match isB d with | some true=>.ok (.bl true) S1 | some false=>g ρ S1 | none=>.bad) | .exc c S=>.exc c S | .bad=>.bad
noncomputable def zhl(d:D):Out (List D)->Out (List D) | .ok ds S=>.ok (d::ds) S | .exc c S=>.exc c S | .bad=>.bad
def zqb(fs:List Fe)(ρ:Env):Out D->Out (List D) | .ok d S=>zhl d (zal fs ρ S) | .exc c S=>.exc c S | .bad=>.bad
def zxF:Out (List D)->Out D | .ok ds S=>if zaH ds.length then .ok (.tup ds) S else .bad | .exc c S=>.exc c S | .bad=>.bad
def zxJ:Out (List D)->Out D | .ok ds S=>if zaH ds.length then .ok (.lst ds) S else .bad | .exc c S=>.exc c S | .bad=>.bad
def zqd(u:List D->Option D):Out (List D)->Out D | .ok ds S=>Out.of (u ds) S | .exc c S=>.exc c S | .bad=>.bad
noncomputable def kFn(r:List D->Sto->Out D):Out (List D)->Out D | .ok ds S=>r ds S | .exc c S=>.exc c S | .bad=>.bad
def zfa(v:D->D->Option D)(b:D):Out D->Out D | .ok c S=>Out.of (v b c) S | .exc c S=>.exc c S | .bad=>.bad
def ze9(v:D->D->Option D)(h:Fe)(ρ:Env)(b:D)(S:Sto):Option D->Out D | some d=>(match isB d with | some true=>zfa v b (h ρ S) | some false=>.ok (.bl false) S | none=>.bad) | none=>.bad
noncomputable def zgh(u v:D->D->Option D)(h:Fe)(ρ:Env)(a:D):Out D->Out D | .ok b S=>ze9 v h ρ b S (u a b) | .exc c S=>.exc c S | .bad=>.bad
noncomputable def zot(u v:D->D->Option D)(g h:Fe)(ρ:Env):Out D->Out D | .ok a S=>zgh u v h ρ a (g ρ S) | .exc c S=>.exc c S | .bad=>.bad
noncomputable def zxK:Out D->Out (Option Int) | .ok (.int i) S=>.ok (some i) S | .ok _ _=>.bad | .exc c S=>.exc c S | .bad=>.bad
def ztN(d:D)(l:Option Int):Out (Option Int)->Out D | .ok u S=>Out.of (slD d l u) S | .exc c S=>.exc c S | .bad=>.bad
def ztO(d:D)(u:Option Fe)(ρ:Env):Out (Option Int)->Out D | .ok l S=>ztN d l (zcU u ρ S) | .exc c S=>.exc c S | .bad=>.bad
def kSl(l u:Option Fe)(ρ:Env):Out D->Out D | .ok d S=>ztO d u ρ (zcU l ρ S) | .exc c S=>.exc c S | .bad=>.bad
noncomputable def zlu:Out D->Out (List D) | .ok (.lst l) S=>.ok l S | .ok (.tup l) S=>.ok l S | .ok _ _=>.bad | .exc c S=>.exc c S | .bad=>.bad
def zsX:Out (List D)->Out (List D) | .ok [.tup l] S=>.ok (zfm l) S | .ok _ _=>.bad | .exc c S=>.exc c S | .bad=>.bad
def zxD:Out (List D)->Out (List D) | .ok ds S1=>(match ds with | [.tup l,.tup k]=>.ok (zgG l k) S1 | _=>.bad) | .exc c S=>.exc c S | .bad=>.bad
def zsU:Out (List D)->Out (List D) | .ok ds S1=>(match ds with | [.int j]=>if -1000000<=j/\j<=1000000 then .ok (zaD 0 j) S1 else .bad | _=>.bad) | .exc c S=>.exc c S | .bad=>.bad
def zsT:Out (List D)->Out (List D) | .ok ds S1=>(match ds with | [.int i,.int j]=>if (-1000000<=i/\i<=1000000)/\-1000000<=j/\j<=1000000 then .ok (zaD i j) S1 else .bad | _=>.bad) | .exc c S=>.exc c S | .bad=>.bad
def zlv:Out (List D)->Out D | .ok ys S2=>if zaH ys.length then .ok (.lst ys) S2 else .bad | _=>.bad
def zqc(tg:Tg)(c elt:Fe)(ρ0:Env):Out (List D)->Out D | .ok ds S1=>zlv (zbn tg c elt ρ0 ds S1) | .exc c S=>.exc c S | .bad=>.bad
noncomputable def zxO:Option (Option (Bool×D))->Option (Bool×D) | some (some (false,d))=>some (false,d) | _=>none
noncomputable def ztT(ρ:Env)(i:Nat):Option (Option (Bool×D))->Env | some (some (true,d))=>ρ.set i (some (false,d)) | _=>ρ
noncomputable def ztP(own:Bool):Fo->Out D | .rt d S'=>.ok d S' | .nx _ S'=>if own then .bad else .ok .non S' | .ex c _ S'=>.exc c S' | _=>.bad
def kRz(c:Str)(ρ:Env):Out (List D)->Fo | .ok ds S'=>if zaH ds.length then .ex c ρ S' else .bad | .exc x S'=>.ex x ρ S' | .bad=>.bad
def ztQ(u:List D->D->Option D)(l:List D):Out D->Out D | .ok d S=>Out.of (u l d) S | .exc c S=>.exc c S | .bad=>.bad
noncomputable def kMt(u:List D->D->Option D)(f:Fe)(ρ:Env)(S:Sto):Option (Option (Bool×D))->Out D | some (some (_,.lst l))=>ztQ u l (f ρ S) | _=>.bad
section
variable{ρ:Env}{S:Sto}{f g h k c:Fe}{a b:Fs}
@[simp] def zyq:eMt u i f ρ S=kMt u f ρ S ρ[i]?:=by
 show (match ρ[i]? with | some (some (_,.lst l))=>(f ρ S).bind fun d S1=>Out.of (u l d) S1 | _=>.bad)=_
 cases ρ[i]? with
 | none=>rfl
 | some o=>cases o with
  | none=>rfl
  | some p =>
   obtain ⟨b,d⟩:=p
   cases d with
   | lst l=>show ((f ρ S).bind fun d S1=>Out.of (u l d) S1)=ztQ u l (f ρ S);cases f ρ S<;>rfl
   | _=>rfl
@[simp] def zzX:kMt u f ρ S (some (some (o,.lst l)))=ztQ u l (f ρ S):=(rfl)
@[simp] def zy6:ztQ u l (.ok d S)=Out.of (u l d) S:=(rfl)
@[simp] def zvW:zaj a b ρ S=(a ρ S).seq b:=by
 show (match a ρ S with | .nx ρ' S'=>b ρ' S' | o=>o)=_
 cases a ρ S<;>rfl
@[simp] def zw4:(Fo.nx ρ S).seq b=b ρ S:=(rfl)
@[simp] def zw3:(Fo.rt d S).seq b=.rt d S:=(rfl)
@[simp] def zw2:(Fo.bk ρ S).seq b=.bk ρ S:=(rfl)
@[simp] def zw1:(Fo.ct ρ S).seq b=.ct ρ S:=(rfl)
@[simp] def zw0:(Fo.ex x ρ S).seq b=.ex x ρ S:=(rfl)
@[simp] def zwZ:Fo.bad.seq b=.bad:=(rfl)
@[simp] def zuf:znF ρ S=.ok (zfQ []) S:=(rfl)
def zkA(h:ρ[i]?=some (some (o,zfQ ps))):zgR i ρ=some (o,ps):=by
 unfold zgR;rw [h];show (psO (ps.map _)).map _=_;rw [ze1];rfl
def zox{k z:D}(h:ρ[i]?=some (some (o,zfQ ps)))(hf:f ρ S=.ok k S1)(hg:g ρ S1=.ok z S2)(hk:asO k=some j):zhy i f g ρ S=.ok (((L2.zd0 ps j).map D.int).getD z) S2:=by
 unfold zhy;rw [zkA h];dsimp only;rw [hf];dsimp only [Out.bind];rw [hg];dsimp only;rw [hk]
def zr1{ps:List (Option Int×Int)}{k:D}(h:ρ[i]?=some (some (true,zfQ ps)))(he:fe ρ S=.ok (.int v) S1)(hf:fk ρ S1=.ok k S2)(hk:asO k=some j)(hl:ps.length<=100000):zh1 i fk fe ρ S=.nx (ρ.set i (some (true,zfQ (L2.zoc ps j v)))) S2:=by
 unfold zh1;rw [zkA h];dsimp only;rw [he];dsimp only;rw [hf];dsimp only;rw [hk];dsimp only;rw [if_pos (show zaH ps.length=true from yaB hl)]
def zvm(h:ρ[i]?=some (some (false,.tup l)))(hf:f ρ S=.ok d S1):zlO i f ρ S=Out.of (zdC l d) S1:=by
 unfold zlO;rw [h];dsimp only;rw [hf];rfl
theorem zty{i j:Nat}{l m:List D}{f:Fe}{q:Nat}{y:D}{S1:Sto}(hi:ρ[i]?=some (some (true,.lst l)))(hj:ρ[j]?=some (some (true,.lst m)))(hij:i≠j)(hf:f ρ S=.ok (.int q) S1)(hy:m[q]?=some y)(hl:l.length<=100000)(hm:m.length<=100000):zdG i j f ρ S=.nx ((ρ.set j (some (true,.lst (m.eraseIdx q)))).set i (some (true,.lst (l++[y])))) S1:=by
 unfold zdG zhj;rw [hi,hj];dsimp only;rw [if_neg hij];dsimp only;rw [hf];dsimp only;rw [if_pos ⟨by omega,show zaH l.length=true from yaB hl,show zaH m.length=true from yaB hm⟩,yaI,hy]
def zsk{h i j:Nat}{f1 f2:Fe}{d1 d2:D}{S1 S2:Sto}(hf:f1 ρ S=.ok d1 S1)(hg:f2 ρ S1=.ok d2 S2):zjF h i j f1 f2 ρ S=.nx (((ρ.set h (some (false,d1))).set i (some (true,d2))).set j (some (true,.lst []))) S2:=by
 unfold zjF;rw [hf];dsimp only;rw [hg]
def zte{l k:List D}(h:ρ[i]?=some (some (true,.lst l)))(hf:f ρ S=.ok (.tup k) S1)(hl:l.length+k.length<=100000):zh2 i f ρ S=.nx (ρ.set i (some (true,.lst (l++k)))) S1:=by
 unfold zh2;rw [h];dsimp only;rw [hf];dsimp only;rw [if_pos (show zaH (l.length+k.length)=true from yaB hl)]
@[simp] def zx8:sFz is a ρ S=a (frz is ρ) S:=(rfl)
@[simp] def zwo:frz [] ρ=ρ:=(rfl)
@[simp] def zwn:frz (i::is) ρ=frz is (frz1 ρ i):=(rfl)
@[simp] def zyl(i:Nat):frz1 ρ i=ztT ρ i ρ[i]?:=(rfl)
@[simp] def zxm:ztT ρ i (some (some (true,d)))=ρ.set i (some (false,d)):=(rfl)
@[simp] def zxl:ztT ρ i (some (some (false,d)))=ρ:=(rfl)
@[simp] def zxk:ztT ρ i (some none)=ρ:=(rfl)
@[simp] def zx6:sNx ρ S=.nx ρ S:=(rfl)
@[simp] def zx9:sBk ρ S=.bk ρ S:=(rfl)
@[simp] def zv1:zbV i o f ρ S=zvg i o ρ (f ρ S):=(rfl)
@[simp] def zxy:zvg i o ρ (.ok d S)=.nx (ρ.set i (some (o,d))) S:=(rfl)
@[simp] def zxx:zvg i o ρ (.exc x S)=.ex x ρ S:=(rfl)
@[simp] def zv0:zpp f ρ S=zve ρ (f ρ S):=(rfl)
@[simp] def zxq:zve ρ (.ok d S)=.nx ρ S:=(rfl)
@[simp] def zxp:zve ρ (.exc x S)=.ex x ρ S:=(rfl)
@[simp] def zvX:za6 f ρ S=zvc ρ (f ρ S):=(rfl)
@[simp] def zxc:zvc ρ (.ok d S)=.rt d S:=(rfl)
@[simp] def zxb:zvc ρ (.exc x S)=.ex x ρ S:=(rfl)
@[simp] def zt7:zmy ρ S=.rt .non S:=(rfl)
@[simp] def zt6:zh0 i ρ S=zsV S ρ[i]?:=(rfl)
@[simp] def zxa:zsV S (some (some (true,d)))=.rt d S:=(rfl)
@[simp] def zx7:sIf c a b ρ S=ztS a b ρ (c ρ S):=(rfl)
@[simp] def zxj:ztS a b ρ (.ok (.bl true) S)=a ρ S:=(rfl)
@[simp] def zxi:ztS a b ρ (.ok (.bl false) S)=b ρ S:=(rfl)
@[simp] def zxh:ztS a b ρ (.exc x S)=.ex x ρ S:=(rfl)
@[simp] def zv2:ziH i f ρ S=zxQ i f ρ S ρ[i]?:=(rfl)
@[simp] def zzs:zxQ i f ρ S (some (some (true,.lst l)))=znk i ρ l (f ρ S):=(rfl)
@[simp] def zxA:znk i ρ l (.ok d S)=if zaH l.length then .nx (ρ.set i (some (true,.lst (l++[d])))) S else .bad:=(rfl)
@[simp] def zxz:znk i ρ l (.exc x S)=.ex x ρ S:=(rfl)
@[simp] def zzj:zzu i f ρ S (some (some (true,.lst l)))=zqa i ρ l (f ρ S):=(rfl)
@[simp] def zxo{l k:List D}:zqa i ρ l (.ok (.lst k) S)=if zaH (l.length+k.length) then .nx (ρ.set i (some (true,.lst (l++k)))) S else .bad:=(rfl)
@[simp] def zvY:zqV i j o1 f o2 g ρ S=zxH i j o1 o2 g ρ (f ρ S):=(rfl)
@[simp] def zy2:zxH i j o1 o2 g ρ (.ok d S)=zp8 i j o1 o2 d ρ (g ρ S):=(rfl)
@[simp] def zxe:zp8 i j o1 o2 d ρ (.ok e S)=.nx ((ρ.set i (some (o1,d))).set j (some (o2,e))) S:=(rfl)
@[simp] def zua:zgX t f ρ S=zqe t ρ (f ρ S):=by
 unfold zgX zqe
 cases f ρ S with
 | ok d S'=>dsimp only;cases t.put ρ d<;>rfl
 | exc c S'=>rfl
 | bad=>rfl
@[simp] def zxw:zqe t ρ (.ok d S)=zvd S (t.put ρ d):=(rfl)
@[simp] def zy1:zvd S (some ρ')=.nx ρ' S:=(rfl)
@[simp] def zvZ:zgW t it a ρ S=zxM t a ρ (it ρ S):=(rfl)
@[simp] def zzf:zxM t a ρ (.ok ds S)=zfx t a ds ρ S:=(rfl)
@[simp] def zx5:sRz x fs ρ S=kRz x ρ (zal fs ρ S):=(rfl)
@[simp] def zzW:kRz x ρ (.ok ds S)=if zaH ds.length then .ex x ρ S else .bad:=(rfl)
@[simp] def zv8:(Tg.one i).put ρ d=some (ρ.set i (some (false,d))):=(rfl)
@[simp] def zv5:(Tg.tup is).put ρ (.tup ds)=zes is ds ρ:=(rfl)
@[simp] def zv7:zes (i::is) (d::ds) ρ=zes is ds (ρ.set i (some (false,d))):=(rfl)
@[simp] def zv6:zes [] [] ρ=some ρ:=(rfl)
@[simp] def zwq:zad i ρ S=zxE S ρ[i]?:=(rfl)
@[simp] def zyU:zxE S (some (some (false,d)))=.ok d S:=(rfl)
@[simp] def zwx:zak i ρ S=zxP S ρ[i]?:=(rfl)
@[simp] def zzr:zxP S (some (some (o,d)))=.ok d S:=(rfl)
@[simp] def zww:zae d ρ S=.ok d S:=(rfl)
@[simp] def zyn:eUn u f ρ S=kUn u (f ρ S):=by
 unfold eUn;cases f ρ S<;>rfl
@[simp] def zyW:kUn u (.ok d S)=Out.of (u d) S:=(rfl)
@[simp] def zyV:kUn u (.exc x S)=.exc x S:=(rfl)
@[simp] def zwy:zaf u f g ρ S=zvf u g ρ (f ρ S):=by
 unfold zaf
 cases f ρ S with
 | ok a S1=>show ((g ρ S1).bind fun b S2=>Out.of (u a b) S2)=zlw u a (g ρ S1);cases g ρ S1<;>rfl
 | exc c S=>rfl
 | bad=>rfl
@[simp] def zxv:zvf u g ρ (.ok d S)=zlw u d (g ρ S):=(rfl)
@[simp] def zxu:zvf u g ρ (.exc x S)=.exc x S:=(rfl)
@[simp] def zxt:zlw u d (.ok e S)=Out.of (u d e) S:=(rfl)
@[simp] def zxs:zlw u d (.exc x S)=.exc x S:=(rfl)
@[simp] def zys:eIf c f g ρ S=kIf f g ρ (c ρ S):=by
 unfold eIf;cases c ρ S<;>rfl
@[simp] def zzd:kIf f g ρ (.ok (.bl true) S)=f ρ S:=(rfl)
@[simp] def zzc:kIf f g ρ (.ok (.bl false) S)=g ρ S:=(rfl)
@[simp] def zwz:zgr f g ρ S=zvh g ρ (f ρ S):=by
 unfold zgr;cases f ρ S<;>rfl
@[simp] def zxC:zvh g ρ (.ok (.bl true) S)=g ρ S:=(rfl)
@[simp] def zxB:zvh g ρ (.ok (.bl false) S)=.ok (.bl false) S:=(rfl)
@[simp] def zyp:eOr f g ρ S=kOr g ρ (f ρ S):=by
 unfold eOr;cases f ρ S<;>rfl
@[simp] def zy4:kOr g ρ (.ok (.bl true) S)=.ok (.bl true) S:=(rfl)
@[simp] def zy3:kOr g ρ (.ok (.bl false) S)=g ρ S:=(rfl)
@[simp] def zuc:zal [] ρ S=.ok [] S:=(rfl)
@[simp] def zud:zal (f::fs) ρ S=zqb fs ρ (f ρ S):=by
 show ((f ρ S).bind fun d S1=>(zal fs ρ S1).bind fun ds S2=>.ok (d::ds) S2)=_
 cases f ρ S with
 | ok a S1=>show ((zal fs ρ S1).bind fun ds S2=>.ok (a::ds) S2)=zhl a (zal fs ρ S1);cases zal fs ρ S1<;>rfl
 | exc c S=>rfl
 | bad=>rfl
@[simp] def zu8:zqb fs ρ (.ok d S)=zhl d (zal fs ρ S):=(rfl)
@[simp] def zu7:zqb fs ρ (.exc x S)=.exc x S:=(rfl)
@[simp] def zu6:zhl d (.ok ds S)=.ok (d::ds) S:=(rfl)
@[simp] def zu5:zhl d (.exc x S)=.exc x S:=(rfl)
@[simp] def zwr:zdd fs ρ S=zxF (zal fs ρ S):=by
 unfold zdd;cases zal fs ρ S<;>rfl
@[simp] def zyX:zxF (.ok ds S)=if zaH ds.length then .ok (.tup ds) S else .bad:=(rfl)
@[simp] def zwt:zfn fs ρ S=zxJ (zal fs ρ S):=by
 unfold zfn;cases zal fs ρ S<;>rfl
@[simp] def zy8:zxJ (.ok ds S)=if zaH ds.length then .ok (.lst ds) S else .bad:=(rfl)
@[simp] def zug:zas u fs ρ S=zqd u (zal fs ρ S):=by
 unfold zas;cases zal fs ρ S<;>rfl
@[simp] def zvb:zqd u (.ok ds S)=Out.of (u ds) S:=(rfl)
@[simp] def zva:zqd u (.exc x S)=.exc x S:=(rfl)
@[simp] def zyt:eFn r fs ρ S=kFn r (zal fs ρ S):=by
 unfold eFn;cases zal fs ρ S<;>rfl
@[simp] def zzh:kFn r (.ok ds S)=r ds S:=(rfl)
@[simp] def zzg:kFn r (.exc x S)=.exc x S:=(rfl)
@[simp] def ztG:zcT u v f g h ρ S=zot u v g h ρ (f ρ S):=by
 show ((f ρ S).bind fun a S1=>(g ρ S1).bind fun b S2=>match (u a b).bind isB with
  | some true=>(h ρ S2).bind fun c S3=>Out.of (v b c) S3
  | some false=>.ok (.bl false) S2
  | none=>.bad)=_
 cases f ρ S with
 | ok a S1 =>
  show ((g ρ S1).bind fun b S2=>match (u a b).bind isB with
   | some true=>(h ρ S2).bind fun c S3=>Out.of (v b c) S3
   | some false=>.ok (.bl false) S2
   | none=>.bad)=zgh u v h ρ a (g ρ S1)
  cases g ρ S1 with
  | ok b S2 =>
   show (match (u a b).bind isB with
    | some true=>(h ρ S2).bind fun c S3=>Out.of (v b c) S3
    | some false=>.ok (.bl false) S2
    | none=>.bad)=ze9 v h ρ b S2 (u a b)
   cases hu:u a b with
   | none=>rfl
   | some d =>
    show (match isB d with
     | some true=>(h ρ S2).bind fun c S3=>Out.of (v b c) S3
     | some false=>.ok (.bl false) S2
     | none=>.bad)=(match isB d with | some true=>zfa v b (h ρ S2) | some false=>.ok (.bl false) S2 | none=>.bad)
    cases hb:isB d with
    | none=>rfl
    | some x=>cases x with
     | true=>show ((h ρ S2).bind fun c S3=>Out.of (v b c) S3)=zfa v b (h ρ S2);cases h ρ S2<;>rfl
     | false=>rfl
  | exc c S=>rfl
  | bad=>rfl
 | exc c S=>rfl
 | bad=>rfl
@[simp] def zzp:zot u v g h ρ (.ok d S)=zgh u v h ρ d (g ρ S):=(rfl)
@[simp] def zzo:zgh u v h ρ d (.ok e S)=ze9 v h ρ e S (u d e):=(rfl)
@[simp] def zzn:ze9 v h ρ e S (some (.bl true))=zfa v e (h ρ S):=(rfl)
@[simp] def zzm:ze9 v h ρ e S (some (.bl false))=.ok (.bl false) S:=(rfl)
@[simp] def zzl:zfa v e (.ok d S)=Out.of (v e d) S:=(rfl)
@[simp] def ztF:zcU none ρ S=.ok none S:=(rfl)
@[simp] def ztE:zcU (some f) ρ S=zxK (f ρ S):=by
 show ((f ρ S).bind fun d S1=>match d with | .int i=>.ok (some i) S1 | _=>.bad)=_
 cases f ρ S with
 | ok d S'=>cases d<;>rfl
 | exc c S'=>rfl
 | bad=>rfl
@[simp] def zzb:zxK (.ok (.int i) S)=.ok (some i) S:=(rfl)
@[simp] def zyo:eSl f l u ρ S=kSl l u ρ (f ρ S):=by
 unfold eSl
 cases f ρ S with
 | ok d S1 =>
  show ((zcU l ρ S1).bind fun l S2=>(zcU u ρ S2).bind fun u S3=>Out.of (slD d l u) S3)=ztO d u ρ (zcU l ρ S1)
  cases zcU l ρ S1 with
  | ok l S2=>show ((zcU u ρ S2).bind fun u S3=>Out.of (slD d l u) S3)=ztN d l (zcU u ρ S2);cases zcU u ρ S2<;>rfl
  | exc c S=>rfl
  | bad=>rfl
 | exc c S=>rfl
 | bad=>rfl
@[simp] def zzV:kSl l u ρ (.ok d S)=ztO d u ρ (zcU l ρ S):=(rfl)
@[simp] def zyZ:ztO d u ρ (.ok l S)=ztN d l (zcU u ρ S):=(rfl)
@[simp] def zyY:ztN d l (.ok u S)=Out.of (slD d l u) S:=(rfl)
@[simp] def zub:zax f ρ S=zlu (f ρ S):=by
 show ((f ρ S).bind fun d S1=>match d with | .lst l=>.ok l S1 | .tup l=>.ok l S1 | _=>.bad)=_
 cases f ρ S with
 | ok d S'=>cases d<;>rfl
 | exc c S'=>rfl
 | bad=>rfl
@[simp] def zza:zlu (.ok (.lst l) S)=.ok l S:=(rfl)
@[simp] def zy9:zlu (.ok (.tup l) S)=.ok l S:=(rfl)
@[simp] def zwp:zlP f ρ S=zsX (zal [f] ρ S):=by
 show ((zal [f] ρ S).bind fun ds S1=>match ds with | [.tup l]=>.ok (zfm l) S1 | _=>.bad)=_
 cases zal [f] ρ S with
 | ok ds S' =>
  cases ds with
  | nil=>rfl
  | cons d ds=>cases ds with
   | nil=>cases d<;>rfl
   | cons e ds=>cases d<;>rfl
 | exc c S'=>rfl
 | bad=>rfl
@[simp] def zzk:zsX (.ok [.tup l] S)=.ok (zfm l) S:=(rfl)
@[simp] def zx0:zqt f g ρ S=zxD (zal [f,g] ρ S):=by
 unfold zqt;cases zal [f,g] ρ S<;>rfl
@[simp] def zwV{l k:List D}:zxD (.ok [.tup l,.tup k] S)=.ok (zgG l k) S:=(rfl)
@[simp] def zv4:zeC f ρ S=zsU (zal [f] ρ S):=by
 unfold zeC;cases zal [f] ρ S<;>rfl
@[simp] def zw9:zsU (.ok [.int j] S)=if -1000000<=j/\j<=1000000 then .ok (zaD 0 j) S else .bad:=(rfl)
@[simp] def zv3:zlN f g ρ S=zsT (zal [f,g] ρ S):=by
 unfold zlN;cases zal [f,g] ρ S<;>rfl
@[simp] def zw8:zsT (.ok [.int i,.int j] S)=if (-1000000<=i/\i<=1000000)/\-1000000<=j/\j<=1000000 then .ok (zaD i j) S else .bad:=(rfl)
@[simp] def zwA:zca n t it c f caps ρ S=zqc t c f (zbT n caps ρ) (it ρ S):=by
 unfold zca
 cases it ρ S with
 | ok ds S' =>
  simp only [Out.bind,zqc]
  cases zbn t c f (zbT n caps ρ) ds S'<;>rfl
 | exc c S'=>rfl
 | bad=>rfl
@[simp] def zxr:zqc t c f ρ0 (.ok ds S)=zlv (zbn t c f ρ0 ds S):=(rfl)
@[simp] def zu9:zlv (.ok ys S)=if zaH ys.length then .ok (.lst ys) S else .bad:=(rfl)
@[simp] def zx1:zdE ρ S=.ok (.bl true) S:=(rfl)
@[simp] def zq2:zbT n caps ρ=List.replicate n none++caps.map (ztp ρ):=(rfl)
@[simp] def zwB:ztp ρ i=zxO ρ[i]?:=(rfl)
@[simp] def zzq:zxO (some (some (false,d)))=some (false,d):=(rfl)
def zar:zbC n own fs ds S=ztP own (fs (ds.map (fun d=>some (false,d))++List.replicate (n-ds.length) none) S):=(rfl)
@[simp] def zw7:ztP own (.rt d S)=.ok d S:=(rfl)
@[simp] def zw6:ztP false (.nx ρ S)=.ok .non S:=(rfl)
@[simp] def zw5:ztP own (.ex x ρ S)=.exc x S:=(rfl)
@[simp] def zyk{b:Bool}:isB (.bl b)=some b:=(rfl)
@[simp] def zya{b:Bool}:zet (.bl b)=some (.bl (!b)):=(rfl)
@[simp] def zyb:zop (.int i)=some (.int (-i)):=(rfl)
@[simp] def zwE:zcz (.int i) (.int j)=some (.int (i+j)):=(rfl)
@[simp] def zwC:zcz (.tup x) (.tup y)=if zaH (x.length+y.length) then some (.tup (x++y)) else none:=(rfl)
@[simp] def zwD:zcz (.lst x) (.lst y)=if zaH (x.length+y.length) then some (.lst (x++y)) else none:=(rfl)
@[simp] def zx2:zrk (.int i) (.int j)=some (.int (i-j)):=(rfl)
@[simp] def zyd:zi3 (.int i) (.int j)=if zco i||zco j then some (.int (i*j)) else none:=(rfl)
@[simp] def zye:zmk (.int i) (.int j)=if 0<j then some (.int (i % j)) else none:=(rfl)
@[simp] def zyu:zti (.int i) (.int j)=if 0<j/\j<1073741824 then some (.int (i / j)) else none:=(rfl)
@[simp] def zzP:ltD (.int i) (.int j)=some (.bl (decide (i<j))):=(rfl)
@[simp] def zzQ:leD (.int i) (.int j)=some (.bl (decide (i<=j))):=(rfl)
@[simp] def zzR:gtD (.int i) (.int j)=some (.bl (decide (j<i))):=(rfl)
@[simp] def zzS:geD (.int i) (.int j)=some (.bl (decide (j<=i))):=(rfl)
@[simp] def zyh:ixD (.lst l) (.int i)=atI l i:=(rfl)
@[simp] def zyf:ixD (.tup l) (.int i)=atI l i:=(rfl)
@[simp] def zyg:ixD (.scr l) (.int i)=(atI l i).map D.int:=(rfl)
@[simp] def zwm:zcH [.lst l]=some (.int l.length):=(rfl)
@[simp] def zwk:zcH [.tup l]=some (.int l.length):=(rfl)
@[simp] def zwl:zcH [.scr l]=some (.int l.length):=(rfl)
@[simp] def zvV:zcf [.lst l]=some (.tup l):=(rfl)
@[simp] def zvU:zcf [.tup l]=some (.tup l):=(rfl)
@[simp] def zwj:zjR [.lst l]=some (.lst l):=(rfl)
@[simp] def zwi:zjR [.tup l]=some (.lst l):=(rfl)
@[simp] def zyj:zno d .non=some (.bl (zc5 d)):=(rfl)
@[simp] def zv9:zib d .non=some (.bl (!zc5 d)):=(rfl)
@[simp] def zwf:zc5 .non=true:=(rfl)
@[simp] def zwe:zc5 (.int i)=false:=(rfl)
@[simp] def zwd:zc5 (.tup l)=false:=(rfl)
@[simp] def zx3:slD (.tup l) x y=some (.tup (zlR l x y)):=(rfl)
@[simp] def zx4:slD (.lst l) x y=some (.lst (zlR l x y)):=(rfl)
@[simp] def zwa:zk8 (.bl x) (.bl y)=some (.bl (!decide (x=y))):=(rfl)
@[simp] def zwh:zu0 [.int i,.int j]=some (.int (if j<i then j else i)):=(rfl)
@[simp] def zt5:zaH n=decide (n<=100000):=(rfl)
def zcq{α:Type}(xs:List α)(j:Nat):atI xs (j:Int)=xs[j]?:=by
 unfold atI ixN
 by_cases h:j<xs.length
 ·simp [h]
 ·simp [h]
@[simp] def zt1{α:Type}(xs:List α):atI xs 0=xs[0]?:=zcq xs 0
@[simp] def zvI{α:Type}(xs:List α):atI xs 1=xs[1]?:=zcq xs 1
@[simp] def zvH{α:Type}(xs:List α):atI xs 2=xs[2]?:=zcq xs 2
@[simp] def ztu{α:Type}(xs:List α):atI xs 3=xs[3]?:=zcq xs 3
def zcP{α:Type}{xs:List α}(h:0<=i):atI xs i=xs[i.toNat]?:=by
 obtain ⟨n,rfl⟩:=ybu h;exact zcq xs n
end
theorem zcn(Iv:Nat->Env->Prop)(step:∀k d ρ,ds[k]?=some d->Iv k ρ->∃ρ1 ρ2,tg.put ρ d=some ρ1/\body ρ1 S=.nx ρ2 S/\Iv (k+1) ρ2)(h0:Iv 0 ρ):∃ρ',zfx tg body ds ρ S=.nx ρ' S/\Iv ds.length ρ':=by
 have go:∀(n:Nat) (es:List D) (k:Nat) (ρ:Env),es.length=n->ds.drop k=es->k+n=ds.length->Iv k ρ->∃ρ',zfx tg body es ρ S=.nx ρ' S/\Iv ds.length ρ':=by
  intro n
  induction n with
  | zero =>
   intro es k ρ hl he hk hi;obtain rfl:es=[]:=ybq hl;exact ⟨ρ,rfl,by rw [show ds.length=k by omega];exact hi⟩
  | succ n ih =>
   intro es k ρ hl he hk hi
   cases es with
   | nil=>cases hl
   | cons d es =>
    have hd:ds[k]?=some d:=by
     have:=congrArg (fun l=>l[0]?) he;rw [ybj] at this;simpa using this
    obtain ⟨ρ1,ρ2,e1,e2,hi2⟩:=step k d ρ hd hi;obtain ⟨ρ',e3,e4⟩:=ih es (k+1) ρ2 (by simpa using hl) (by rw [<-List.drop_drop,he];rfl) (by omega) hi2;refine ⟨ρ',?_,e4⟩;unfold zfx;rw [e1];dsimp only;rw [e2];exact e3
 exact go ds.length ds 0 ρ rfl (by simp) (by omega) h0
theorem zde:∀{ds:List D},(∀d∈ds,∃ρ1,tg.put ρ0 d=some ρ1/\c ρ1 S=.ok (.bl (p d)) S/\(p d=true->elt ρ1 S=.ok (g d) S))->zbn tg c elt ρ0 ds S=.ok ((ds.filter p).map g) S
 | [],_=>rfl
 | d::ds,h=>by
  obtain ⟨ρ1,e1,e2,e3⟩:=h d yaA;have ih:=zde (ds:=ds) fun x hx=>h x (yaw _ hx)
  unfold zbn;rw [e1];dsimp only;rw [e2]
  cases hp:p d with
  | true=>simp [e3 hp,ih,hp]
  | false=>simp [ih,hp]
def zaM(h:∀d∈ds,∃ρ1,tg.put ρ0 d=some ρ1/\elt ρ1 S=.ok (g d) S):zbn tg zdE elt ρ0 ds S=.ok (ds.map g) S:=by
 have:=zde (c:=zdE) (p:=fun _=>true) (tg:=tg) (elt:=elt) (ρ0:=ρ0) (S:=S) (g:=g) (ds:=ds) fun d hd=>by
  obtain ⟨ρ1,e1,e2⟩:=h d hd;exact ⟨ρ1,e1,rfl,fun _=>e2⟩
 rw [this,List.filter_eq_self.mpr (fun _ _=>rfl)]
mutual
def D.pl:D->Bool
 | .non=>true
 | .int _=>true
 | .str _=>true
 | .tup l=>D.pls l
 | .lst l=>D.pls l
 | _=>false
def D.pls:List D->Bool
 | []=>true
 | d::l=>d.pl&&D.pls l
end
theorem D.pls_iff:∀{l:List D},D.pls l=true↔∀d∈l,d.pl=true
 | []=>by simp [D.pls]
 | d::l=>by simp [D.pls,D.pls_iff (l:=l)]
mutual
theorem zht:∀(d e:D),d.pl=true->e.pl=true->(d.py.eqv e.py=true↔d=e)
 | .non,e,_,h=>by cases e<;>simp [D.py,PyData.eqv,D.pl] at h ⊢
 | .int i,e,_,h=>by cases e<;>simp [D.py,PyData.eqv,D.pl] at h ⊢
 | .str x,e,_,h=>by cases e<;>simp [D.py,PyData.eqv,D.pl] at h ⊢
 | .tup l,e,hd,h=>by
  cases e with
  | tup k =>
   simp only [D.py,PyData.eqv,D.pl] at hd h ⊢;rw [zil l k hd h];simp
  | _=>simp [D.py,PyData.eqv,D.pl] at h ⊢
 | .lst l,e,hd,h=>by
  cases e with
  | lst k =>
   simp only [D.py,PyData.eqv,D.pl] at hd h ⊢;rw [zil l k hd h];simp
  | _=>simp [D.py,PyData.eqv,D.pl] at h ⊢
 | .bl _,_,hd,_=>by simp [D.pl] at hd
 | .dic _,_,hd,_=>by simp [D.pl] at hd
 | .ref _,_,hd,_=>by simp [D.pl] at hd
 | .exc _,_,hd,_=>by simp [D.pl] at hd
 | .scr _,_,hd,_=>by simp [D.pl] at hd
theorem zil:∀(l k:List D),D.pls l=true->D.pls k=true->(PyData.eqvAll (D.pys l) (D.pys k)=true↔l=k)
 | [],[],_,_=>by simp [D.pys,PyData.eqvAll]
 | [],_::_,_,_=>by simp [D.pys,PyData.eqvAll]
 | _::_,[],_,_=>by simp [D.pys,PyData.eqvAll]
 | d::l,e::k,h1,h2=>by
  simp only [D.pls,yac] at h1 h2;simp only [D.pys,PyData.eqvAll,yac,List.cons.injEq];rw [zht d e h1.1 h2.1,zil l k h1.2 h2.2]
end
@[simp] def zlL:D.fit n (.int i)=true:=by cases n<;>rfl
@[simp] def zvw:D.fit n .non=true:=by cases n<;>rfl
@[simp] def zvv:D.fit (n+1) (.tup l)=D.fits n l:=(rfl)
@[simp] def zvx:D.fit (n+1) (.lst l)=D.fits n l:=(rfl)
@[simp] def ztV:D.fits n []=true:=by cases n<;>rfl
@[simp] def ztc:D.fits n (d::l)=(d.fit n&&D.fits n l):=by cases n<;>rfl
@[simp] def zym:eqD (.int i) (.int j)=some (.bl (decide (i=j))):=by
 unfold eqD zer;simp [D.py,PyData.eqv]
 cases h:(i == j)<;>simp_all
@[simp] def zyc:neD (.int i) (.int j)=some (.bl (!decide (i=j))):=by
 unfold neD zer;simp [D.py,PyData.eqv]
 cases h:(i == j)<;>simp_all
def zfO:eqD (.scr l) (.lst [])=some (.bl (decide (l=[]))):=by
 cases l with
 | nil=>rfl
 | cons a l=>simp [eqD,D.fit,D.fits,zer,D.py,D.pys,PyData.eqv,PyData.eqvAll]
noncomputable def zj4(l:List Int)(k:Int):Int:=if k<l.length then l.getD k.toNat 0 else if l=[] then 0 else l.getD (k % l.length).toNat 0*31+k
def zbQ(l:List Int)(k:Int)(many:Int):Int :=
 let d:=(zj4 l k+6151*(k+1))*40692 % 2147483399
 (d*d+d / 31) % 2147483629 % many
def zbH(l:List Int)(k:Int)(h:0<many):0<=zbQ l k many/\zbQ l k many<many:=⟨Int.emod_nonneg _ (by omega),ycZ _ h⟩
@[simp] def zxT:zco 31=true:=by decide
@[simp] def ztW:zco 6151=true:=by decide
@[simp] def ztd:zco 40692=true:=by decide
theorem zlM(h0:-(2 ^ 64)<i)(h:i<2 ^ 64):zco i=true:=by unfold zco;simp;omega
theorem zmD(hk:0<=k):zbF [.scr l,.int k] S=.ok (.int (zj4 l k)) S:=by
 unfold zj4
 by_cases h:k<l.length
 ·have hx:l[k.toNat]?=some l[k.toNat]:=yab (by omega);rw [if_pos h,yaf,hx];simp [zbF,zar,zb6,h,zcP hk,hx]
 ·by_cases h0:l=[]
  ·subst h0;simp [zbF,zar,zb6,zfO,show ¬ k<0 by omega]
  ·have hl:0<l.length:=by cases l with | nil=>exact absurd rfl h0 | cons _ _=>simp
   have hm0:0<=k % (l.length:Int):=Int.emod_nonneg _ (by omega);have hm1:k % (l.length:Int)<l.length:=ycZ _ (by omega);have hx:l[(k % (l.length:Int)).toNat]?=some (l[(k % (l.length:Int)).toNat]'(by omega)):=yab (by omega);rw [if_neg h,if_neg h0,yaf,hx];simp [zbF,zar,zb6,h,h0,zfO,zcP hm0,hx,hl]
theorem zbu(hk:0<=k)(hm:0<many):zan [.scr l,.int k,.int many] S=.ok (.int (zbQ l k many)) S:=by
 unfold zbQ;have h0:0<=(zj4 l k+6151*(k+1))*40692 % 2147483399:=Int.emod_nonneg _ (by omega);have h1:(zj4 l k+6151*(k+1))*40692 % 2147483399<2147483399:=ycZ _ (by omega);have hf:zco ((zj4 l k+6151*(k+1))*40692 % 2147483399)=true:=zlM (by omega) (by omega);simp [zan,zar,zdO,zmD hk,hf,hm]
noncomputable def zab(t:List Int):D:=.tup (t.map D.int)
def zns{t u:List Int}:t.map D.int=u.map D.int↔t=u:=by
 constructor
 ·intro h
  induction t generalizing u with
  | nil=>cases u with | nil=>rfl | cons _ _=>cases h
  | cons a t ih=>cases u with
   | nil=>cases h
   | cons b u =>
    simp only [yav,List.cons.injEq,D.int.injEq] at h;rw [h.1,ih h.2]
 ·rintro rfl;rfl
def zmp:zab t=zab u↔t=u:=by unfold zab;rw [D.tup.injEq];exact zns
def zga{t:List Int}:D.pls (t.map D.int)=true:=by rw [D.pls_iff];intro d hd;obtain ⟨i,_,rfl⟩:=yat.mp hd;rfl
def zgb:(zab t).pl=true:=zga
def zfg{t:List Int}:D.fits n (t.map D.int)=true:=by rw [D.fits_iff];intro d hd;obtain ⟨i,_,rfl⟩:=yat.mp hd;exact zlL
def zeN:(zab t).fit (n+1)=true:=zfg
theorem zlh:∀{l:List D},d.pl=true->D.pls l=true->(zi5 d l=true↔d∈l)
 | [],_,_=>by simp [zi5]
 | e::l,h,hl=>by
  simp only [D.pls,yac] at hl;have ih:=zlh (d:=d) (l:=l) h hl.2;have e1:=zht e d hl.1 h;unfold zi5;simp only [List.any_cons,ycQ,yau];unfold zi5 at ih;rw [ih];unfold zer;rw [e1]
  constructor<;>(intro z;rcases z with z | z<;>simp [z])
def zhf{ts:Z2}:zkd (zab t) (.lst (ts.map zab))=some (.bl (!decide (t∈ts))):=by
 have f1:(zab t).fit 8=true:=zeN
 have f2:D.fits 8 (ts.map zab)=true:=by rw [D.fits_iff];intro d hd;obtain ⟨i,_,rfl⟩:=yat.mp hd;exact zeN
 have p2:D.pls (ts.map zab)=true:=by rw [D.pls_iff];intro d hd;obtain ⟨i,_,rfl⟩:=yat.mp hd;exact zgb
 have m:=zlh (d:=zab t) zgb p2
 have:(zab t∈ts.map zab)↔t∈ts:=by
  rw [yat];constructor
  ·rintro ⟨u,hu,e⟩;rw [<-zmp.mp e];exact hu
  ·intro h;exact ⟨t,h,rfl⟩
 rw [this] at m;unfold zkd;simp only [zjC,f1,f2,Bool.and_self,ybT,Option.some.injEq,D.bl.injEq];congr 1
 by_cases h:t∈ts
 ·rw [m.mpr h];simp [h]
 ·cases hm:zi5 (zab t) (ts.map zab)
  ·simp [h]
  ·exact absurd (m.mp hm) h
structure Tiles(most:Int)(ts:Z2):Prop where
 ne:1<=ts.length
 le:(ts.length:Int)<=most
 four:∀t∈ts,t.length=4
 col:∀t∈ts,∀c∈t,0<=c/\c<3
 nd:ts.Nodup
def zcB{k:Nat}(h:(zaD 0 hi)[k]?=some d):d=.int k/\(k:Int)<hi:=by
 unfold zaD at h;rw [yal] at h
 cases hr:(List.range (hi-0).toNat)[k]? with
 | none=>rw [hr] at h;cases h
 | some j =>
  rw [hr] at h;obtain ⟨h1,h2⟩:=yai.mp hr;simp at h1 h2;subst h2;simp at h;exact ⟨h.symm,by omega⟩
@[simp] def zkN:(zaD 0 hi).length=hi.toNat:=by unfold zaD;simp
def zkM(h:d∈zaD 0 hi):∃k:Nat,d=.int k/\(k:Int)<hi:=by
 obtain ⟨k,hk⟩:=ycE h;exact ⟨k,zcB hk⟩
def zrV:zaD 0 4=[.int 0,.int 1,.int 2,.int 3]:=by rfl
@[simp] def zzI:zco 4=true:=by decide
@[simp] def zzH:zco 7=true:=by decide
theorem zoP(ha:0<=at')(hk:0<=k)(hc:0<col)(hc3:col<=3)(hn:ts.length<=1000) :
  ∃t y',t.length=4/\(∀c∈t,0<=c/\c<3)/\zbh [some (false,.scr l),some (false,.int at'),some (false,.int most),some (false,.int col),some (true,.lst (ts.map zab)),some (false,.int k),y] S
   = .nx [some (false,.scr l),some (false,.int at'),some (false,.int most),some (false,.int col),some (true,.lst ((if t∈ts then ts else ts++[t]).map zab)),some (false,.int k),y'] S:=by
 have hcomp:∀ρ0:Env,ρ0=[none,some (false,.int at'),some (false,.int col),some (false,.int k),some (false,.scr l)]->zbn (.one 0) zdE (eFn zan [(zad 4),(zaf zcz (zaf zcz (zaf zcz (zak 1) (zaf zi3 (zae (.int 4)) (zak 3))) (zae (.int 2))) (zak 0)),(zad 2)]) ρ0 (zaD 0 4) S
   = .ok ([zbQ l (at'+4*k+2+0) col,zbQ l (at'+4*k+2+1) col,zbQ l (at'+4*k+2+2) col,zbQ l (at'+4*k+2+3) col].map D.int) S:=by
  rintro _ rfl;rw [zrV,zaM (g:=fun d=>match d with | .int i=>.int (zbQ l (at'+4*k+2+i) col) | _=>.non)]
  ·rfl
  ·intro d hd;simp only [yau,ya4,ycu] at hd
   rcases hd with rfl | rfl | rfl | rfl<;>exact ⟨_,rfl,by simp;rw [zbu (by omega) hc]⟩
 have b0:=zbH l (at'+4*k+2+0) hc;have b1:=zbH l (at'+4*k+2+1) hc;have b2:=zbH l (at'+4*k+2+2) hc;have b3:=zbH l (at'+4*k+2+3) hc;generalize zbQ l (at'+4*k+2+0) col=p0 at *;generalize zbQ l (at'+4*k+2+1) col=p1 at *;generalize zbQ l (at'+4*k+2+2) col=p2 at *;generalize zbQ l (at'+4*k+2+3) col=p3 at *
 have fin:∀t:List Int,(zaj (sFz [] (sIf (zaf zkd (zak 6) (zak 4)) (zaj (sFz [6] (ziH 4 (zad 6))) sNx) sNx)) sNx) [some (false,.scr l),some (false,.int at'),some (false,.int most),some (false,.int col),some (true,.lst (ts.map zab)),some (false,.int k),some (false,zab t)] S
   = .nx [some (false,.scr l),some (false,.int at'),some (false,.int most),some (false,.int col),some (true,.lst ((if t∈ts then ts else ts++[t]).map zab)),some (false,.int k),some (false,zab t)] S:=by
  intro t
  by_cases h:t∈ts
  ·simp [zhf,h]
  ·simp [zhf,h,show ts.length<=100000 by omega]
 by_cases h3:zbQ l (at'+60+k) 3=0
 ·refine ⟨[p0,p1,p0,p1],some (false,zab [p0,p1,p0,p1]),rfl,by simp;omega,?_⟩;rw [<-fin];simp [zbh,hcomp,zbu (show 0<=at'+60+k by omega) (show (0:Int)<3 by omega),h3];rfl
 ·refine ⟨[p0,p1,p2,p3],some (false,zab [p0,p1,p2,p3]),rfl,by simp;omega,?_⟩;rw [<-fin];simp [zbh,hcomp,zbu (show 0<=at'+60+k by omega) (show (0:Int)<3 by omega),h3];rfl
theorem zkI(ha:0<=at')(hm:0<most)(hm2:most<=100):∃ts,Tiles most ts/\zci [.scr l,.int at',.int most] S=.ok (.tup (ts.map zab)) S:=by
 have b:=zbH l at' (many:=2) (by omega);have n:=zbH l (at'+1) hm;have p1:=zbu (l:=l) (S:=S) ha (show (0:Int)<2 by omega);have p2:=zbu (l:=l) (S:=S) (show 0<=at'+1 by omega) hm;generalize zbQ l at' 2=c at *;generalize zbQ l (at'+1) most=m at *
 obtain ⟨ρ',e,ts,x,y,rfl,h1,h2,h3,h4,h5⟩:=zcn (tg:=.one 5) (body:=zbh) (ds:=zaD 0 (1+m)) (S:=S) (fun k ρ=>∃ts x y,ρ=[some (false,.scr l),some (false,.int at'),some (false,.int most),some (false,.int (2+c)),some (true,.lst (ts.map zab)),x,y]/\ts.length<=k/\(0<k->1<=ts.length)/\(∀t∈ts,t.length=4)/\(∀t∈ts,∀c∈t,0<=c/\c<3)/\ts.Nodup) (by
   rintro k d ρ hd ⟨ts,x,y,rfl,h1,h2,h3,h4,h5⟩;obtain ⟨rfl,hk⟩:=zcB hd;obtain ⟨t,y',a1,a2,a3⟩:=zoP (l:=l) (at':=at') (most:=most) (col:=2+c) (k:=k) (S:=S) (ts:=ts) (y:=y) ha (by omega) (by omega) (by omega) (by omega);refine ⟨_,_,rfl,a3,_,_,_,rfl,?_,?_,?_,?_,?_⟩
   ·split<;>(try simp)<;>omega
   ·intro _;split
    ·rename_i h;exact List.length_pos_of_mem h
    ·simp
   ·intro u hu;split at hu
    ·exact h3 u hu
    ·rw [ya3,yaF] at hu
     rcases hu with hu | rfl
     ·exact h3 u hu
     ·exact a1
   ·intro u hu;split at hu
    ·exact h4 u hu
    ·rw [ya3,yaF] at hu
     rcases hu with hu | rfl
     ·exact h4 u hu
     ·exact a2
   ·split
    ·exact h5
    ·rename_i h;rw [List.nodup_append];refine ⟨h5,by simp,?_⟩
     intro a ha b hb;rw [yaF] at hb;subst hb;rintro rfl;exact h ha)
  (ρ:=[some (false,.scr l),some (false,.int at'),some (false,.int most),some (false,.int (2+c)),some (true,.lst []),none,none]) ⟨[],none,none,rfl,by simp,by simp,by simp,by simp,by simp⟩
 rw [zkN] at h1 h2;refine ⟨ts,⟨h2 (by omega),by omega,h3,h4,h5⟩,?_⟩;simp [zci,zar,zda,p1,p2,show -1000000<=1+m/\1+m<=1000000 by omega,e]
noncomputable def oD:Option Int->D | none=>.non | some i=>.int i
noncomputable def zcb(c:Nat)(g:Nat->Option Int):List D:=(List.range c).map fun j=>oD (g j)
def zea(c:Nat)(g:Nat->Option Int):D:=.tup (zcb c g)
noncomputable def zcd(r c:Nat)(g:Z1):List D:=(List.range r).map fun i=>zea c (g i)
def flr(r c:Nat)(g:Z1):D:=.tup (zcd r c g)
@[simp] def ztK:(zcb c g).length=c:=by simp [zcb]
@[simp] def ztU:(zcd r c g).length=r:=by simp [zcd]
def ziJ(h:j<c):(zcb c g)[j]?=some (oD (g j)):=by simp [zcb,h]
def zeM(h:i<r):(zcd r c g)[i]?=some (zea c (g i)):=by simp [zcd,h]
@[simp] def zuG(h:j<(zcb c g).length):(zcb c g)[j]=oD (g j):=by simp [zcb]
@[simp] def zvt(h:i<(zcd r c g).length):(zcd r c g)[i]=zea c (g i):=by simp [zcd]
def zkL:zcb (k+1) g=zcb k g++[oD (g k)]:=by simp [zcb,ybB]
def zlK:zcd (k+1) c g=zcd k c g++[zea c (g k)]:=by simp [zcd,ybB]
def zkc(l:List Int)(at' n m:Int)(i j:Nat):Option Int:=if zbQ l (at'+7*i+j) (n*m)<n then some (zbQ l (at'+7*i+j) (n*m)) else none
theorem zoo(h:0<n*m):∀x,zkc l at' n m i j=some x->0<=x/\x<n:=by
 intro x e;unfold zkc at e;have:=zbH l (at'+7*i+j) h;split at e
 ·cases e;omega
 ·cases e
theorem znB{l:List Int}{at' m:Int}{ts:List D}{r c:Nat}{i:Nat}{S:Sto}{A B Mm:Option (Bool×D)}{y:Option (Bool×D)}{z:Option (Bool×D)}(ha:0<=at')(hp:0<(ts.length:Int)*m)(hm:zco m=true)(hc:c<=1000) :
  ∃y' z',zfx (.one 9) zbi (zaD 0 c) [some (false,.scr l),some (false,.int at'),some (false,.tup ts),A,B,some (false,.int m),Mm,some (false,.int i),some (true,.lst []),y,z] S
   = .nx [some (false,.scr l),some (false,.int at'),some (false,.tup ts),A,B,some (false,.int m),Mm,some (false,.int i),some (true,.lst (zcb c (zkc l at' ts.length m i))),y',z'] S:=by
 obtain ⟨ρ',e,y',z',rfl⟩:=zcn (tg:=.one 9) (body:=zbi) (ds:=zaD 0 c) (S:=S) (fun k ρ=>∃y z,ρ=[some (false,.scr l),some (false,.int at'),some (false,.tup ts),A,B,some (false,.int m),Mm,some (false,.int i),some (true,.lst (zcb k (zkc l at' ts.length m i))),y,z]) (by
  rintro k d ρ hd ⟨y,z,rfl⟩;obtain ⟨rfl,hk⟩:=zcB hd;have p:=zbu (l:=l) (S:=S) (show 0<=at'+7*(i:Int)+(k:Int) by omega) hp;have pn:=zbH l (at'+7*(i:Int)+(k:Int)) hp;refine ⟨_,_,rfl,?_,some (false,.int k),some (false,.int (zbQ l (at'+7*i+k) (ts.length*m))),rfl⟩
  ·rw [zkL]
   by_cases h:zbQ l (at'+7*(i:Int)+(k:Int)) (ts.length*m)<ts.length
   ·simp [zbi,p,hm,h,zkc,oD,show k<=100000 by omega]
   ·simp [zbi,p,hm,h,zkc,oD,show k<=100000 by omega])
  (ρ:=[some (false,.scr l),some (false,.int at'),some (false,.tup ts),A,B,some (false,.int m),Mm,some (false,.int i),some (true,.lst []),y,z]) ⟨y,z,rfl⟩
 exact ⟨y',z',by simpa using e⟩
theorem zg3(ha:0<=at')(hp:0<(ts.length:Int)*m)(hm:zco m=true)(hr:0<=r)(hr2:r<=1000)(hc:0<=c)(hc2:c<=1000) :
  zbp [.scr l,.int at',.tup ts,.int r,.int c,.int m] S=.ok (flr r.toNat c.toNat (zkc l at' ts.length m)) S:=by
 obtain ⟨r,rfl⟩:=ybu hr;obtain ⟨c,rfl⟩:=ybu hc
 obtain ⟨ρ',e,x1,x2,x3,x4,rfl⟩:=zcn (tg:=.one 7) (body:=zcy) (ds:=zaD 0 r) (S:=S) (fun k ρ=>∃x1 x2 x3 x4,ρ=[some (false,.scr l),some (false,.int at'),some (false,.tup ts),some (false,.int r),some (false,.int c),some (false,.int m),some (true,.lst (zcd k c (zkc l at' ts.length m))),x1,x2,x3,x4]) (by
  rintro k d ρ hd ⟨x1,x2,x3,x4,rfl⟩;obtain ⟨rfl,hk⟩:=zcB hd;obtain ⟨y',z',e⟩:=znB (l:=l) (at':=at') (m:=m) (ts:=ts) (r:=r) (c:=c) (i:=k) (S:=S) (A:=some (false,.int r)) (B:=some (false,.int c)) (Mm:=some (true,.lst (zcd k c (zkc l at' ts.length m)))) (y:=x3) (z:=x4) ha hp hm (by omega);refine ⟨_,_,rfl,?_,some (false,.int k),some (true,.lst (zcb c (zkc l at' ts.length m k))),y',z',rfl⟩
  ·rw [zlK]
   simp [zcy,e,zea,show -1000000<=(c:Int)/\(c:Int)<=1000000 by omega,show k<=100000 by omega])
  (ρ:=[some (false,.scr l),some (false,.int at'),some (false,.tup ts),some (false,.int r),some (false,.int c),some (false,.int m),some (true,.lst []),none,none,none,none]) ⟨none,none,none,none,rfl⟩
 simp at e;simp [zbp,zar,zdc,e,flr,show -1000000<=(r:Int)/\(r:Int)<=1000000 by omega]
theorem zmA(ha:0<=at')(ht:Tiles most ts)(hm:most<=100) :
  ∃(r c:Nat) (g:Z1),1<=r/\r<=4/\1<=c/\c<=4/\(∀i j x,g i j=some x->0<=x/\x<ts.length)/\zaO [.scr l,.int at',.tup (ts.map zab)] S=.ok (flr r c g) S:=by
 have b1:=zbH l at' (many:=4) (by omega);have b2:=zbH l (at'+1) (many:=4) (by omega);have b3:=zbH l (at'+50) (many:=3) (by omega);have p1:=zbu (l:=l) (S:=S) ha (show (0:Int)<4 by omega);have p2:=zbu (l:=l) (S:=S) (show 0<=at'+1 by omega) (show (0:Int)<4 by omega);have p3:=zbu (l:=l) (S:=S) (show 0<=at'+50 by omega) (show (0:Int)<3 by omega);generalize zbQ l at' 4=q1 at *;generalize zbQ l (at'+1) 4=q2 at *;generalize zbQ l (at'+50) 3=q3 at *;have n1:=ht.ne
 have key:∀m:Int,(m=1\/m=2\/m=3)->(∀d,zbp [.scr l,.int (at'+2),.tup (ts.map zab),.int (1+q1),.int (1+q2),.int m] S=.ok d S->zaO [.scr l,.int at',.tup (ts.map zab)] S=.ok d S)->∃(r c:Nat) (g:Z1),1<=r/\r<=4/\1<=c/\c<=4/\(∀i j x,g i j=some x->0<=x/\x<ts.length)/\zaO [.scr l,.int at',.tup (ts.map zab)] S=.ok (flr r c g) S:=by
  intro m hm e;have hp:0<((ts.map zab).length:Int)*m:=Int.mul_pos (by simp;omega) (by omega);have e':=e _ (zg3 (by omega) hp (zlM (by omega) (by omega)) (by omega) (by omega) (by omega) (by omega));refine ⟨_,_,_,?_,?_,?_,?_,?_,e'⟩
  all_goals try omega
  intro i j x h;have:=zoo hp x h;simpa using this
 have h3:q3=0\/q3=1\/q3=2:=by omega
 rcases h3 with rfl | rfl | rfl
 ·exact key 1 (by omega) (fun d h=>by simp [zaO,zar,zb5,p1,p2,p3,h])
 ·exact key 2 (by omega) (fun d h=>by simp [zaO,zar,zb5,p1,p2,p3,h])
 ·exact key 3 (by omega) (fun d h=>by simp [zaO,zar,zb5,p1,p2,p3,h])
noncomputable abbrev plD(i j:Nat):D:=.tup [.int i,.int j]
noncomputable def zck(r c:Nat):List D:=(List.range r).flatMap fun i=>(List.range c).map fun j=>plD i j
def zg8:zck (k+1) c=zck k c++(List.range c).map fun j=>plD k j:=by simp [zck,ybB]
def zcZ(h:d∈zck r c):∃i j,i<r/\j<c/\d=plD i j:=by
 simp only [zck,ybm,ybc,yat] at h;obtain ⟨i,hi,j,hj,e⟩:=h;exact ⟨i,j,hi,hj,e.symm⟩
def zdJ:(zck r c).length=r*c:=by
 induction r with
 | zero=>simp [zck]
 | succ k ih=>rw [zg8,yam,ih];simp [Nat.succ_mul]
def zf4(h:1<=r):zbN [flr r c g] S=.ok (.tup [.int r,.int c]) S:=by
 have e:=zeM (c:=c) (g:=g) (i:=0) (r:=r) (by omega);simp [zbN,zar,zfj,flr,e,zea,show 0<r by omega]
theorem zdk(h:1<=r)(hr:r<=100)(hc:c<=100):zaX [flr r c g] S=.ok (.lst (zck r c)) S:=by
 have inner:∀(k:Nat) (y:Option (Bool×D)),k<r->∃y',zfx (.one 4) zb0 (zaD 0 c) [some (false,flr r c g),some (false,.tup [.int r,.int c]),some (true,.lst (zck k c)),some (false,.int k),y] S
   = .nx [some (false,flr r c g),some (false,.tup [.int r,.int c]),some (true,.lst (zck (k+1) c)),some (false,.int k),y'] S:=by
  intro k y hk
  obtain ⟨ρ',e,y',rfl⟩:=zcn (tg:=.one 4) (body:=zb0) (ds:=zaD 0 c) (S:=S) (fun j ρ=>∃y,ρ=[some (false,flr r c g),some (false,.tup [.int r,.int c]),some (true,.lst (zck k c++(List.range j).map fun j=>plD k j)),some (false,.int k),y]) (by
   rintro j d ρ hd ⟨y,rfl⟩;obtain ⟨rfl,hj⟩:=zcB hd
   have hl:k*c+j<=100000:=by
    have:k*c<=100*100:=ybo (by omega) (by omega);omega
   refine ⟨_,_,rfl,?_,some (false,.int j),rfl⟩
   simp [zb0,ybB,zdJ,hl])
   (ρ:=[some (false,flr r c g),some (false,.tup [.int r,.int c]),some (true,.lst (zck k c)),some (false,.int k),y]) ⟨y,by simp⟩
  refine ⟨y',?_⟩;rw [e,zg8];simp
 obtain ⟨ρ',e,x,y,rfl⟩:=zcn (tg:=.one 3) (body:=zcO) (ds:=zaD 0 r) (S:=S) (fun k ρ=>∃x y,ρ=[some (false,flr r c g),some (false,.tup [.int r,.int c]),some (true,.lst (zck k c)),x,y]) (by
  rintro k d ρ hd ⟨x,y,rfl⟩;obtain ⟨rfl,hk⟩:=zcB hd;obtain ⟨y',e⟩:=inner k y (by omega);refine ⟨_,_,rfl,?_,some (false,.int k),y',rfl⟩
  simp [zcO,e,show -1000000<=(c:Int)/\(c:Int)<=1000000 by omega])
  (ρ:=[some (false,flr r c g),some (false,.tup [.int r,.int c]),some (true,.lst []),none,none]) ⟨none,none,rfl⟩
 simp at e;simp [zaX,zar,zdL,zf4 h,e,show -1000000<=(r:Int)/\(r:Int)<=1000000 by omega]
def zdl(hi:i<r)(hj:j<c):zaC [flr r c g,plD i j] S=.ok (oD (g i j)) S:=by
 simp [zaC,zar,zdM,flr,plD,zcq,zeM hi,ziJ hj,zea]
def zcg:zat [.tup l,.int a,.int b] S=.ok (.bl (decide (a<=l.length/\(l.length:Int)<=b))) S:=by
 by_cases h1:a<=(l.length:Int)
 ·by_cases h2:(l.length:Int)<=b<;>simp [zat,zar,zbY,zeB,h1,h2]
 ·simp [zat,zar,zbY,zeB,h1]
def zqH{α:Type}{xs:List α}{p:α->Bool}:zgA (xs.map fun x=>D.bl (p x))=some (xs.map p):=by
 induction xs with
 | nil=>rfl
 | cons x xs ih=>simp [zgA,ih]
theorem all_map{α:Type}{xs:List α}{p:α->Bool}:zme [.lst (xs.map fun x=>D.bl (p x))]=some (.bl (xs.all p)):=by
 show Option.map _ (zgA _)=_;rw [zqH];simp [List.all_map]
@[simp] def zzJ:eqD (oD a) (oD b)=some (.bl (decide (a=b))):=by
 cases a<;>cases b<;>simp [oD]
 ·rfl
 ·rfl
 ·rfl
@[simp] def zwS:zc5 (oD a)=decide (a=none):=by cases a<;>simp [oD]
theorem zh4{l:List D}{n:Nat}{S:Sto}:zat [.tup l,.int n,.int n] S=.ok (.bl (decide (l.length=n))) S:=by
 rw [zcg];congr 3;apply propext;omega
noncomputable def zfw(g:Z1):D->Bool | .tup [.int i,.int j]=>(g i.toNat j.toNat).isSome | _=>false
def zmB(h:1<=r)(hr:r<=100)(hc:c<=100):zbX [flr r c g] S=.ok (.lst ((zck r c).filter (zfw g))) S:=by
 have hl:((zck r c).filter (zfw g)).length<=100000:=by
  refine yak (ya1 _ _) ?_;rw [zdJ];have:r*c<=100*100:=ybo hr hc;omega
 have e:zbn (.one 0) (zaf zib (eFn zaC [(zad 1),(zad 0)]) (zae .non)) (zad 0) [none,some (false,flr r c g)] (zck r c) S=.ok ((zck r c).filter (zfw g)) S:=by
  rw [zde (g:=id) (p:=zfw g)]
  ·simp
  ·intro d hd;obtain ⟨i,j,hi,hj,rfl⟩:=zcZ hd;refine ⟨_,rfl,?_,fun _=>by simp⟩;simp [zdl hi hj,zfw]
   cases g i j<;>rfl
 simp [zbX,zar,zcL,zdk h hr hc,e,hl]
theorem zeL{tg:Tg}{body:Fs}{S:Sto}{α:Type}(mk:List D->α->Env)(g:D->List D)(N:Nat):∀{ds:List D},(∀d∈ds,∀(L:List D) (x:α),L.length+(g d).length<=N->∃ρ1 x',tg.put (mk L x) d=some ρ1/\body ρ1 S=.nx (mk (L++g d) x') S) →
  ∀(L0:List D) (x0:α),L0.length+(ds.flatMap g).length<=N->∃x',zfx tg body ds (mk L0 x0) S=.nx (mk (L0++ds.flatMap g) x') S
 | [],_,L0,x0,_=>⟨x0,by simp [zfx]⟩
 | d::ds,step,L0,x0,hN=>by
  rw [ybn,yam] at hN;obtain ⟨ρ1,x',e1,e2⟩:=step d yaA L0 x0 (by omega);obtain ⟨x2,e3⟩:=zeL mk g N (ds:=ds) (fun d hd=>step d (yaw _ hd)) (L0++g d) x' (by rw [yam];omega);refine ⟨x2,?_⟩;unfold zfx;rw [e1];dsimp only;rw [e2];dsimp only;rw [e3,ybn,ybP]
def zjI{lo hi:Int}:(zaD lo hi).length=(hi-lo).toNat:=by unfold zaD;simp
theorem zgm{α:Type}{g:α->List D}{m:Nat}:∀{ds:List α},(∀d∈ds,(g d).length<=m)->(ds.flatMap g).length<=ds.length*m
 | [],_=>by simp
 | d::ds,h=>by
  have h1:=h d yaA;have h2:=zgm (ds:=ds) fun d hd=>h d (yaw _ hd)
  rw [ybn,yam,yan,Nat.succ_mul];omega
theorem zmE{rows:List D}{i:Int}(h0:0<=i)(h1:i<rows.length):atI rows i=some (rows.getD i.toNat .non):=by
 rw [zcP h0,yab (by omega)];simp [List.getD,show i.toNat<rows.length by omega]
def zec(h:d.pl=true)(f:d.fit 9=true):neD d d=some (.bl false):=by
 unfold neD zer;rw [f,(zht d d h h).mpr rfl];rfl
def zqs(h:d.pl=true)(f:d.fit 9=true):eqD d d=some (.bl true):=by
 unfold eqD zer;rw [f,(zht d d h h).mpr rfl];rfl
structure TOk(ts:Z2):Prop where
 four:∀t∈ts,t.length=4
 le:ts.length<=100
noncomputable def zbe(ts:Z2)(n:Int)(s:Nat):Int:=(ts.getD n.toNat []).getD s 0
theorem zgM{ts:Z2}(ht:TOk ts){n:Int}(h0:0<=n)(h1:n<ts.length):atI (ts.map zab) n=some (.tup ([zbe ts n 0,zbe ts n 1,zbe ts n 2,zbe ts n 3].map D.int)):=by
 rw [zcP h0,yal,yab (by omega)];have h4:=ht.four _ (yaQ (show n.toNat<ts.length by omega))
 have e:ts.getD n.toNat []=ts[n.toNat]:=by rw [yaf,yab (by omega)];rfl
 unfold zbe;rw [e];generalize ts[n.toNat]=t at *
 match t,h4 with
 | [a,b,c,d],_=>rfl
def zeU:zaU [.int i] S=.ok (.bl true) S:=by simp [zaU,zar,zdt,zeB]
def zh3:zaU [.non] S=.ok (.bl false) S:=by simp [zaU,zar,zdt,zeB]
def zbc(h:∀x,o=some x->0<=x/\x<ts.length):zaz [.tup ts,oD o] S=.ok (.bl o.isSome) S:=by
 cases o with
 | none=>simp [zaz,zar,zcp,oD,zh3]
 | some x=>obtain ⟨h0,h1⟩:=h x rfl;simp [zaz,zar,zcp,oD,zeU,h0,h1]
noncomputable def hp1:Fe:=zcT leD ltD (zae (.int 0)) (zaf ixD (zak 1) (zae (.int 0))) (zaf ixD (zak 2) (zae (.int 0)))
noncomputable def hp2:Fe:=zcT leD ltD (zae (.int 0)) (zaf ixD (zak 1) (zae (.int 1))) (zaf ixD (zak 2) (zae (.int 1)))
noncomputable def hpF:Fs:=(zaj (sFz [1] (sIf (eOr (eUn zet (eFn zat [(zad 1),(zae (.int 2)),(zae (.int 2))])) (eOr (eUn zet (eFn zaU [(zaf ixD (zak 1) (zae (.int 0)))])) (eUn zet (eFn zaU [(zaf ixD (zak 1) (zae (.int 1)))])))) (zaj (sFz [] (za6 (zae (.bl false)))) sNx) sNx))
  (zaj (sFz [0] (zbV 2 false (eFn zbN [(zad 0)]))) (zaj (sFz [] (za6 (zgr hp1 hp2))) sNx)))
def zs5:zdN=hpF:=rfl
def zdU(h1:1<=r):zbD [flr r c g,.tup [.int i,.int j]] S=.ok (.bl (decide ((0<=i/\i<r)/\0<=j/\j<c))) S:=by
 have ht:zat [.tup [.int i,.int j],.int 2,.int 2] S=.ok (.bl true) S:=by rw [zcg];simp
 have sz:=zf4 (c:=c) (g:=g) (S:=S) h1
 have t1:∀x,hp1 [x,some (false,.tup [.int i,.int j]),some (false,.tup [.int r,.int c])] S=.ok (.bl (decide (0<=i/\i<r))) S:=fun x=>by
  by_cases a:0<=i<;>simp [hp1,a]
 have t2:∀x,hp2 [x,some (false,.tup [.int i,.int j]),some (false,.tup [.int r,.int c])] S=.ok (.bl (decide (0<=j/\j<c))) S:=fun x=>by
  by_cases a:0<=j<;>simp [hp2,a]
 rw [Bool.decide_and];generalize decide (0<=i/\i<r)=b1 at *;generalize decide (0<=j/\j<c)=b2 at *;generalize flr r c g=fl at *;simp only [zbD,zar,zs5]
 cases b1<;>simp [hpF,ht,zeU,sz,t1,t2]
noncomputable def InT(ts:Z2)(g:Z1):Prop:=∀i j x,g i j=some x->0<=x/\x<ts.length
noncomputable def za8(ts:Z2)(r c:Nat)(g:Z1)(i j s:Nat):Option Int:=if i<r/\j<c then (g i j).map fun x=>zbe ts x s else none
theorem zeF{ts:Z2}{r c:Nat}{g:Z1}{i j s:Nat}{S:Sto}(ht:TOk ts)(hg:InT ts g)(h1:1<=r)(hs:s<4):zaJ [.tup (ts.map zab),flr r c g,plD i j,.int s] S=.ok (oD (za8 ts r c g i j s)) S:=by
 unfold za8
 by_cases h:i<r/\j<c
 ·have hp:zbD [flr r c g,plD i j] S=.ok (.bl true) S:=by rw [zdU h1];congr 3;simp;omega
  have hn:=zdl (g:=g) (S:=S) h.1 h.2;have hh:=zbc (ts:=ts.map zab) (o:=g i j) (S:=S) (fun x hx=>by simpa using hg i j x hx);rw [if_pos h]
  cases hx:g i j with
  | none =>
   rw [hx] at hn hh;simp only [oD] at hn hh;simp [zaJ,zar,zc8,hp,hn,hh,oD]
  | some x =>
   obtain ⟨x0,x1⟩:=hg i j x hx;rw [hx] at hn hh;have e:=zgM ht x0 x1
   have es:atI ([zbe ts x 0,zbe ts x 1,zbe ts x 2,zbe ts x 3].map D.int) (s:Int)=some (.int (zbe ts x s)):=by
    rw [zcq]
    match s,hs with
    | 0,_=>rfl
    | 1,_=>rfl
    | 2,_=>rfl
    | 3,_=>rfl
   simp only [oD] at hn hh;simp only [yav,List.map_nil] at e es;simp [zaJ,zar,zc8,hp,hn,hh,oD,e,es]
 ·have hp:zbD [flr r c g,plD i j] S=.ok (.bl false) S:=by rw [zdU h1];congr 3;simp;omega
  rw [if_neg h];simp [zaJ,zar,zc8,hp,oD]
theorem ziI(ht:TOk ts)(hg:InT ts g)(h1:1<=r):zbd [.tup (ts.map zab),flr r c g,plD i j] S=.ok (.tup [oD (za8 ts r c g i j 1),oD (za8 ts r c g i (j+1) 3)]) S:=by
 have e1:zaJ [.tup (ts.map zab),flr r c g,.tup [.int i,.int j],.int 1] S=_:=zeF (i:=i) (j:=j) (s:=1) (S:=S) (c:=c) ht hg h1 (by omega);have e2:zaJ [.tup (ts.map zab),flr r c g,.tup [.int i,.int ((j:Int)+1)],.int 3] S=_:=zeF (i:=i) (j:=j+1) (s:=3) (S:=S) (c:=c) ht hg h1 (by omega);simp [zbd,zar,zcv,plD,e1,e2]
theorem zgZ(ht:TOk ts)(hg:InT ts g)(h1:1<=r):zaY [.tup (ts.map zab),flr r c g,plD i j] S=.ok (.tup [oD (za8 ts r c g i j 2),oD (za8 ts r c g (i+1) j 0)]) S:=by
 have e1:zaJ [.tup (ts.map zab),flr r c g,.tup [.int i,.int j],.int 2] S=_:=zeF (i:=i) (j:=j) (s:=2) (S:=S) (c:=c) ht hg h1 (by omega);have e2:zaJ [.tup (ts.map zab),flr r c g,.tup [.int ((i:Int)+1),.int j],.int 0] S=_:=zeF (i:=i+1) (j:=j) (s:=0) (S:=S) (c:=c) ht hg h1 (by omega);simp [zaY,zar,zb4,plD,e1,e2]
noncomputable def cl2:Option Int->Option Int->Bool | some a,some b=>!decide (a=b) | _,_=>false
def zg4:zcE [.tup [oD a,oD b]] S=.ok (.bl (cl2 a b)) S:=by
 cases a<;>cases b
 all_goals simp [zcE,zar,zek,oD,cl2,zkd,zjC,zi5,zer,D.py,PyData.eqv]
noncomputable def clD(d:D)(s:Str):D:=.tup [d,.str s]
def clG(ts:Z2)(r c:Nat)(g:Z1):D->List D
 | .tup [.int i,.int j]=>(if cl2 (za8 ts r c g i.toNat j.toNat 1) (za8 ts r c g i.toNat (j.toNat+1) 3) then [clD (.tup [.int i,.int j]) "east"] else [])++(if cl2 (za8 ts r c g i.toNat j.toNat 2) (za8 ts r c g (i.toNat+1) j.toNat 0) then [clD (.tup [.int i,.int j]) "south"] else [])
 | _=>[]
def clL(ts:Z2)(r c:Nat)(g:Z1):List D:=(zck r c).flatMap (clG ts r c g)
def zqA:(clG ts r c g d).length<=2:=by
 unfold clG;split
 ·rw [yam];split<;>split<;>simp
 ·simp
theorem zlY(hr:r<=100)(hc:c<=100):(clL ts r c g).length<=20000:=by
 refine yak (zgm fun d _=>zqA) ?_;rw [zdJ];have:r*c<=100*100:=ybo hr hc;omega
theorem zeY(ht:TOk ts)(hg:InT ts g)(h1:1<=r)(hr:r<=100)(hc:c<=100):zcX [.tup (ts.map zab),flr r c g] S=.ok (.lst (clL ts r c g)) S:=by
 obtain ⟨x',e⟩:=zeL (tg:=.one 3) (body:=zdR) (S:=S) (fun L (x:Option (Bool×D))=>[some (false,.tup (ts.map zab)),some (false,flr r c g),some (true,.lst L),x]) (clG ts r c g) 50000 (ds:=zck r c) (by
  intro d hd L x hL;obtain ⟨i,j,hi,hj,rfl⟩:=zcZ hd;refine ⟨_,some (false,plD i j),rfl,?_⟩;have e1:=ziI (i:=i) (j:=j) (S:=S) (c:=c) ht hg h1;have e2:=zgZ (i:=i) (j:=j) (S:=S) (c:=c) ht hg h1
  have hl:L.length<=100000:=by omega
  have hl1:L.length+1<=100000:=by omega
  simp only [plD] at e1 e2
  cases a1:cl2 (za8 ts r c g i j 1) (za8 ts r c g i (j+1) 3)<;>cases a2:cl2 (za8 ts r c g i j 2) (za8 ts r c g (i+1) j 0)<;>simp [zdR,plD,e1,e2,zg4,a1,a2,clG,clD,hl,hl1]) [] none (by have:=zlY (ts:=ts) (g:=g) hr hc;unfold clL at this;simp only [ycT];omega)
 simp at e;simp [zcX,zar,zfl,zdk h1 hr hc,e,clL]
theorem zmt(q:Int)(h0:0<=q)(h1:q<10):∃r c:Nat,1<=r/\r<=3/\1<=c/\c<=4/\r*c<=6/\atI [D.tup [.int 1,.int 1],.tup [.int 1,.int 2],.tup [.int 2,.int 1],.tup [.int 2,.int 2],.tup [.int 2,.int 2],.tup [.int 1,.int 4],.tup [.int 2,.int 3],.tup [.int 3,.int 2],.tup [.int 3,.int 1],.tup [.int 2,.int 3]] q=some (.tup [.int r,.int c]):=by
 have:q=0\/q=1\/q=2\/q=3\/q=4\/q=5\/q=6\/q=7\/q=8\/q=9:=by omega
 rcases this with rfl | rfl | rfl | rfl | rfl | rfl | rfl | rfl | rfl | rfl
 ·exact ⟨1,1,by omega,by omega,by omega,by omega,by omega,rfl⟩
 ·exact ⟨1,2,by omega,by omega,by omega,by omega,by omega,rfl⟩
 ·exact ⟨2,1,by omega,by omega,by omega,by omega,by omega,rfl⟩
 ·exact ⟨2,2,by omega,by omega,by omega,by omega,by omega,rfl⟩
 ·exact ⟨2,2,by omega,by omega,by omega,by omega,by omega,rfl⟩
 ·exact ⟨1,4,by omega,by omega,by omega,by omega,by omega,rfl⟩
 ·exact ⟨2,3,by omega,by omega,by omega,by omega,by omega,rfl⟩
 ·exact ⟨3,2,by omega,by omega,by omega,by omega,by omega,rfl⟩
 ·exact ⟨3,1,by omega,by omega,by omega,by omega,by omega,rfl⟩
 ·exact ⟨2,3,by omega,by omega,by omega,by omega,by omega,rfl⟩
theorem zkJ(ha:0<=at'):∃r c:Nat,1<=r/\r<=3/\1<=c/\c<=4/\r*c<=6/\zcj [.scr l,.int at'] S=.ok (.tup [.int r,.int c]) S:=by
 have p:=zbu (l:=l) (S:=S) ha (show (0:Int)<10 by omega);have n:=zbH l at' (many:=10) (by omega);generalize zbQ l at' 10=q at *;obtain ⟨r,c,h1,h2,h3,h4,h5,e⟩:=zmt q n.1 n.2;refine ⟨r,c,h1,h2,h3,h4,h5,?_⟩;simp [zcj,zar,zdb,p,e]
noncomputable def zkf(ts:Z2)(c:Nat)(t:List Int)(n:Int):Bool:=decide ((0<t.length % c->zbe ts (t.getLastD 0) 1=zbe ts n 3)/\(c<=t.length->zbe ts (t.getD (t.length-c) 0) 2=zbe ts n 0))
noncomputable def InR(ts:Z2)(t:List Int):Prop:=∀x∈t,0<=x/\x<ts.length
def zni{t:List Int}(h:t≠[]):t.getLastD 0∈t:=by
 cases t with
 | nil=>exact absurd rfl h
 | cons a t=>rw [List.getLastD_cons];exact List.getLastD_mem_cons
theorem zjc{t:List Int}:(t++[n]).getD m 0=if m<t.length then t.getD m 0 else if m=t.length then n else 0:=by
 simp only [yaf]
 by_cases h:m<t.length
 ·rw [yay h,if_pos h]
 ·rw [yas (by omega),if_neg h]
  by_cases e:m=t.length
  ·subst e;simp
  ·rw [if_neg e,ya2 (by simp;omega)];rfl
noncomputable def unI:D->Int | .int i=>i | _=>0
noncomputable def zyw:D->List D | .tup l=>l | _=>[]
def zpr{n:Nat}{f:D->D}:(zaD 0 (n:Int)).map f=(List.range n).map fun k:Nat=>f (.int k):=by
 simp [zaD,yaO,Function.comp_def]
noncomputable def zc7:Fs :=
  (zaj (sFz [0,0] (za6 (zca 1 (.one 0) (zax (eFn zbX [(zad 0)])) zdE (eFn zaC [(zad 1),(zad 0)]) [0])))
  sNx)
noncomputable def zch:List S2.D->Sto->Out S2.D:=zbC 1 true zc7
noncomputable def zfk:Fs :=
  (zaj (sFz [0,0] (za6 (zca 1 (.one 0) (zax (eUn zhX (zad 0))) zdE (zdd [(zad 0),(eMt zd5 1 (zak 0))]) [0])))
  sNx)
noncomputable def zdW:List S2.D->Sto->Out S2.D:=zbC 1 true zfk
noncomputable def zcx:Fs :=
  (zaj (sFz [0,3] (sIf (eFn zaz [(zad 0),(zad 3)]) (zaj (sFz [] (zh2 2 (zaf ixD (zak 0) (zak 3)))) sNx) sNx)) sNx)
noncomputable def zc9:Fs :=
  (zaj (sFz [] (zbV 2 true (zfn [])))
  (zaj (sFz [1] (zgW (.one 3) (zax (eFn zch [(zad 1)])) zcx))
  (zaj (sFz [2] (za6 (eFn zdW [(zad 2)])))
  sNx)))
noncomputable def zbO:List S2.D->Sto->Out S2.D:=zbC 4 true zc9
noncomputable def zbA(r c:Nat)(g:Z1):List Int:=(List.range r).flatMap fun i=>(List.range c).filterMap fun j=>g i j
noncomputable def atP(g:Z1):D->D | .tup [.int i,.int j]=>oD (g i.toNat j.toNat) | _=>.non
theorem zgf:∀js:List Nat,(((js.map fun j=>plD i j).filter (zfw g)).map (atP g))=(js.filterMap fun j=>g i j).map D.int
 | []=>rfl
 | j::js=>by
  rw [yav,List.filter_cons,ybQ]
  have e:zfw g (plD i j)=(g i j).isSome:=by show (g (i:Int).toNat (j:Int).toNat).isSome=_;rfl
  rw [e]
  cases h:g i j with
  | none=>simp only [Option.isSome,yaM,ybL];exact zgf js
  | some x =>
   simp only [Option.isSome,ybT];rw [yav,yav,zgf js,show atP g (plD i j)=oD (g i j) from rfl,h];rfl
def ziU:((zck r c).filter (zfw g)).map (atP g)=(zbA r c g).map D.int:=by
 unfold zck zbA;rw [List.filter_flatMap,ybH,ybH];congr 1;funext i;exact zgf _
def ziT(hr:r<=100)(hc:c<=100):(zbA r c g).length<=10000:=by
 have e:=congrArg List.length (ziU (r:=r) (c:=c) (g:=g));rw [yad,yad] at e;rw [<-e];refine yak (ya1 _ _) ?_;rw [zdJ];exact ybo hr hc
def ziS:x∈zbA r c g↔∃i j,i<r/\j<c/\g i j=some x:=by
 unfold zbA;simp only [ybm,ybc,ybV];exact ⟨fun ⟨i,hi,j,hj,e⟩=>⟨i,j,hi,hj,e⟩,fun ⟨i,j,hi,hj,e⟩=>⟨i,hi,j,hj,e⟩⟩
def zh5(h:1<=r)(hr:r<=100)(hc:c<=100):zch [flr r c g] S=.ok (.lst ((zbA r c g).map D.int)) S:=by
 have e:zbn (.one 0) zdE (eFn zaC [(zad 1),(zad 0)]) [none,some (false,flr r c g)] ((zck r c).filter (zfw g)) S=.ok ((zbA r c g).map D.int) S:=by
  rw [zaM (g:=atP g),ziU];intro d hd;obtain ⟨i,j,hi,hj,rfl⟩:=zcZ ((ybM.mp hd).1);exact ⟨_,rfl,by simp [zdl hi hj,atP]⟩
 have hl:=ziT (g:=g) hr hc
 have hl2:((zck r c).filter (zfw g)).length<=100000:=by
  refine yak (ya1 _ _) ?_;rw [zdJ];have:r*c<=100*100:=ybo hr hc;omega
 simp [zch,zar,zc7,zmB h hr hc,e,hl2,show (zbA r c g).length<=100000 by omega]
theorem zig:∀ns:List Int,zbB (ns.map D.int)=some ns
 | []=>rfl
 | n::ns=>by
  show (zbB (ns.map D.int)).map _=_;rw [zig ns];rfl
def zkP:zer (.int a) (.int b)=decide (a=b):=by
 by_cases h:a=b<;>simp [zer,D.py,PyData.eqv,h]
noncomputable def zvz(ns:List Int)(k:Int):Nat:=ns.countP fun x=>decide (x=k)
def zj0:zd5 (ns.map D.int) (.int k)=some (.int (zvz ns k:Nat)):=by
 unfold zd5;rw [show (D.int k).fit 8=true from rfl,show D.fits 8 (ns.map D.int)=true by rw [D.fits_iff];intro d hd;obtain ⟨y,_,rfl⟩:=yat.mp hd;rfl];show some (D.int _)=_;rw [List.countP_map];have e:(fun d=>zer d (.int k))∘D.int=fun x=>decide (x=k):=funext fun t=>zkP
 rw [e];rfl
def zgE(ns:List Int):List D:=(ST.zag ns).map fun k=>.tup [.int k,.int (zvz ns k:Nat)]
def zkw(h:∀x∈ns,0<=x/\x<8):zhX (.lst (ns.map D.int))=some (.lst ((ST.zag ns).map D.int)):=by
 show (zbB (ns.map D.int)).bind _=_;rw [zig];show (if _ then _ else _)=_;rw [if_pos (ybl.mpr fun x hx=>yaB (h x hx))]
def zh7(h:∀x∈ns,0<=x/\x<8):zdW [.lst (ns.map D.int)] S=.ok (.lst (zgE ns)) S:=by
 have e:zbn (.one 0) zdE (zdd [(zad 0),(eMt zd5 1 (zak 0))]) [none,some (false,.lst (ns.map D.int))] ((ST.zag ns).map D.int) S=.ok (zgE ns) S:=by
  rw [zaM (g:=fun d=>match d with | .int k=>.tup [.int k,.int (zvz ns k:Nat)] | _=>.non)]
  ·unfold zgE;rw [yaO];rfl
  ·intro d hd;obtain ⟨k,hk,rfl⟩:=yat.mp hd;exact ⟨_,rfl,by simp [zj0]⟩
 have hl:(ST.zag ns).length<=100000:=yak ST.zaF (by decide)
 have hl2:(zgE ns).length<=100000:=by unfold zgE;rw [yad];exact hl
 simp [zdW,zar,zfk,zkw h,e,hl,hl2]
def znb(h:∀x,o=some x->0<=x/\x<ts.length):zcC [.tup ts,oD o] S=.ok (.bl true) S:=by
 have e:=zbc (ts:=ts) (o:=o) (S:=S) h
 cases o with
 | none=>simp [zcC,zar,zd1,oD]
 | some x =>
  simp only [oD] at e;simp [zcC,zar,zd1,oD,e]
def zrR:(zea c f).pl=true:=by
 show D.pls (zcb c f)=true;rw [D.pls_iff];intro d hd;obtain ⟨j,_,rfl⟩:=yat.mp hd
 cases f j<;>rfl
def zpq:(zea c f).fit (n+1)=true:=by
 show D.fits n (zcb c f)=true;rw [D.fits_iff];intro d hd;obtain ⟨j,_,rfl⟩:=yat.mp hd
 cases f j<;>simp [oD]
def ztb:(flr r c g).pl=true:=by
 show D.pls (zcd r c g)=true;rw [D.pls_iff];intro d hd;obtain ⟨j,_,rfl⟩:=yat.mp hd;exact zrR
def zqm:(flr r c g).fit (n+2)=true:=by
 show D.fits (n+1) (zcd r c g)=true;rw [D.fits_iff];intro d hd;obtain ⟨j,_,rfl⟩:=yat.mp hd;exact zpq
def zpS:neD (flr r c g) (flr r c g)=some (.bl false):=zec ztb zqm
noncomputable def zgp:Fs :=
  (zaj (sFz [1,1,0] (za6 (zgr (eFn zat [(zad 1),(zae (.int 1)),(zae (.int 6))]) (zas zme [(zca 1 (.one 0) (zax (zad 1)) zdE (eFn zcC [(zad 1),(zad 0)]) [0])]))))
  sNx)
noncomputable def zdo:List S2.D->Sto->Out S2.D:=zbC 2 false zgp
noncomputable def zei:Fs :=
  (zaj (sFz [1] (sIf (eUn zet (eFn zat [(zad 1),(zae (.int 1)),(zae (.int 6))])) (zaj (sFz [] (za6 (zae (.bl false)))) sNx) sNx))
  (zaj (sFz [1,0] (sIf (eUn zet (zas zme [(zca 1 (.one 0) (zax (zad 1)) zdE (eFn zdo [(zad 1),(zad 0)]) [0])])) (zaj (sFz [] (za6 (zae (.bl false)))) sNx) sNx))
  (zaj (sFz [1,1] (za6 (zas zme [(zca 1 (.one 0) (zax (zad 1)) zdE (zaf eqD (zas zcH [(zak 0)]) (zas zcH [(zaf ixD (zak 1) (zae (.int 0)))])) [1])])))
  sNx)))
noncomputable def zcD:List S2.D->Sto->Out S2.D:=zbC 2 false zei
noncomputable def zeh:Fs :=
  (zaj (sFz [1] (sIf (eUn zet (eFn zat [(zad 1),(zas zcH [(zak 0)]),(zas zcH [(zak 0)])])) (zaj (sFz [] (za6 (zae (.bl false)))) sNx) sNx))
  (zaj (sFz [1,0,1] (za6 (zgr (zas zme [(zca 1 (.one 0) (zax (zad 1)) zdE (eFn zaz [(zad 1),(zad 0)]) [0])]) (zaf eqD (eUn zc3 (zad 1)) (zas zcH [(zak 1)])))))
  sNx))
noncomputable def zb1:List S2.D->Sto->Out S2.D:=zbC 2 false zeh
noncomputable def zbJ:Fs :=
  (zaj (sFz [0,1] (sIf (eUn zet (eFn zb1 [(zad 0),(zad 1)])) (zaj (sFz [] (sRz "NoTile" [(zae (.str "this is no order of the set's numbers"))])) sNx) sNx))
  sNx)
noncomputable def zaq:List S2.D->Sto->Out S2.D:=zbC 2 false zbJ
noncomputable def zgn:Fs :=
  (zaj (sFz [0,1] (zpp (eFn zaq [(zad 0),(zad 1)])))
  (zaj (sFz [1,0] (za6 (zas zcf [(zca 1 (.one 0) (zax (zad 1)) zdE (zaf ixD (zak 1) (zak 0)) [0])])))
  sNx))
noncomputable def zdm:List S2.D->Sto->Out S2.D:=zbC 2 false zgn
noncomputable def zgo:Fs :=
  (zaj (sFz [0,1] (za6 (zas zcf [(zca 1 (.one 0) (zax (zad 0)) zdE (zhy 1 (zad 0) (zad 0)) [1])])))
  sNx)
noncomputable def zdV:List S2.D->Sto->Out S2.D:=zbC 2 false zgo
noncomputable def zdi:Fs :=
  (zaj (sFz [4] (zh1 3 (zad 5) (zad 4))) sNx)
noncomputable def zej:Fs :=
  (zaj (sFz [0,2] (zpp (eFn zaq [(zad 0),(zad 2)])))
  (zaj (sFz [] (zbV 3 true znF))
  (zaj (sFz [2] (zgW (.tup [4,5]) (zlP (zad 2)) zdi))
  (zaj (sFz [1,3] (za6 (zas zcf [(zca 1 (.one 0) (zax (zad 1)) zdE (eFn zdV [(zad 0),(zad 1)]) [3])])))
  sNx))))
noncomputable def zbE:List S2.D->Sto->Out S2.D:=zbC 6 false zej
noncomputable def zft(n:Nat):List Int:=(List.range n).map fun (i:Nat)=>(i:Int)
theorem zm4:x∈zft n↔0<=x/\x<n:=by
 unfold zft;rw [yat];constructor
 ·rintro ⟨i,hi,rfl⟩;rw [ybc] at hi;omega
 ·intro h;exact ⟨x.toNat,ybc.mpr (by omega),by omega⟩
def zeK:(zft n).length=n:=by simp [zft]
def ziW(h:k<n):(zft n)[k]?=some (k:Int):=by simp [zft,h]
theorem zpR:(zft n).Nodup:=by
 unfold zft List.Nodup;rw [yc5];exact List.Pairwise.imp (fun {a b} h e=>h (by omega)) List.nodup_range
noncomputable def Ord(n:Nat)(os:List Int):Prop:=os.Perm (zft n)
def Ord.len{os:List Int}(h:Ord n os):os.length=n:=h.length_eq.trans zeK
def Ord.mem{os:List Int}(h:Ord n os):x∈os↔0<=x/\x<n:=h.mem_iff.trans zm4
def Ord.nd{os:List Int}(h:Ord n os):os.Nodup:=h.nodup_iff.mpr zpR
noncomputable def inv(os:List Int)(x:Int):Int:=(os.idxOf x:Nat)
theorem Ord.inv_in{n:Nat}{os:List Int}(h:Ord n os){x:Int}(hx:0<=x/\x<n):0<=inv os x/\inv os x<n:=by
 have:=List.idxOf_lt_length_of_mem (h.mem.mpr hx);rw [h.len] at this;unfold inv;omega
def Ord.get_inv{n:Nat}{os:List Int}(h:Ord n os){x:Int}(hx:0<=x/\x<n):os[(inv os x).toNat]?=some x:=by
 have hl:=List.idxOf_lt_length_of_mem (h.mem.mpr hx);show os[((os.idxOf x:Nat):Int).toNat]?=_;rw [yaI,yab hl,List.getElem_idxOf hl]
theorem zjb:∀{os:List Int},os.Nodup->∀{k:Nat} {x:Int},os[k]?=some x->os.idxOf x=k
 | [],_,k,x,h=>by simp at h
 | a::os,hn,0,x,h=>by cases h;exact List.idxOf_cons_self
 | a::os,hn,k+1,x,h=>by
  have h':os[k]?=some x:=h;obtain ⟨h1,h2⟩:=ybO.mp hn;have hm:x∈os:=ybb h';have hne:a≠x:=fun e=>h1 (e ▸ hm)
  have hb:(a == x)=false:=yaR.mpr hne;rw [List.idxOf_cons,hb,zjb h2 h'];rfl
def Ord.inv_get{os:List Int}(h:Ord n os){k:Nat}(hk:os[k]?=some x):inv os x=(k:Int):=by
 unfold inv;rw [zjb h.nd hk]
def Ord.inv_inj{n:Nat}{os:List Int}(h:Ord n os){x y:Int}(hx:0<=x/\x<n)(hy:0<=y/\y<n)(e:inv os x=inv os y):x=y:=by
 have a:=h.get_inv hx;have b:=h.get_inv hy;rw [e,b] at a;exact (Option.some.inj a).symm
def con(n:Nat)(os:List Int):List Int:=(zft n).map (inv os)
def zlT{os:List Int}{k:Nat}(h:k<n):(con n os)[k]?=some (inv os k):=by
 unfold con;rw [yal,ziW h];rfl
theorem zlm{os:List Int}(h:Ord n os):os.map (inv os)=zft n:=by
 apply ybz;intro k;rw [yal]
 by_cases hk:k<n
 ·have hl:k<os.length:=by rw [h.len];exact hk
  rw [yab hl,ziW hk];show some (inv os _)=_;rw [h.inv_get (yab hl)]
 ·rw [ya2 (by rw [h.len];omega),ya2 (by rw [zeK];omega)];rfl
theorem Ord.con{os:List Int}(h:Ord n os):Ord n (con n os):=by
 have p:((zft n).map (inv os)).Perm (os.map (inv os)):=(List.Perm.map _ h).symm;rwa [zlm h] at p
theorem Ord.con_inv{n:Nat}{os:List Int}(h:Ord n os){x:Int}(hx:0<=x/\x<n):inv (S2.con n os) (inv os x)=x:=by
 have e:(S2.con n os)[x.toNat]?=some (inv os x):=by
  rw [zlT (by omega),show ((x.toNat:Nat):Int)=x by omega]
 rw [h.con.inv_get e];omega
noncomputable def newT(ts:Z2)(os:List Int):List (List Int):=os.map fun o=>ts.getD o.toNat []
def zbR{ts:Z2}{os:List Int}(h:Ord ts.length os):(newT ts os).length=ts.length:=by unfold newT;rw [yad,h.len]
def zgg{ts:Z2}{os:List Int}(h:Ord ts.length os){x:Int}(hx:0<=x/\x<ts.length):(newT ts os).getD (inv os x).toNat []=ts.getD x.toNat []:=by
 unfold newT;rw [yaf,yal,h.get_inv hx];rfl
def ze4{ts:Z2}{os:List Int}(h:Ord ts.length os){x:Int}(hx:0<=x/\x<ts.length)(s:Nat):zbe (newT ts os) (inv os x) s=zbe ts x s:=by
 unfold zbe;rw [zgg h hx]
theorem zk9{ts:Z2}{os:List Int}(h:Ord ts.length os)(ht:t∈newT ts os):t∈ts:=by
 obtain ⟨o,ho,rfl⟩:=yat.mp ht;have:=h.mem.mp ho;rw [yaf,yab (by omega)];exact yaQ _
theorem zm6{ts:Z2}{os:List Int}(h:Ord ts.length os):newT (newT ts os) (con ts.length os)=ts:=by
 apply ybz;intro k;unfold newT;rw [yal]
 by_cases hk:k<ts.length
 ·rw [zlT hk];show some ((newT ts os).getD (inv os k).toNat [])=_;rw [zgg h (by omega),yaI,yaf,yab hk];rfl
 ·rw [ya2 (by rw [h.con.len];omega),ya2 (by omega)];rfl
def mvG(os:List Int)(g:Z1):Nat->Nat->Option Int:=fun i j=>(g i j).map (inv os)
def zic{ts:Z2}{os:List Int}(h:Ord ts.length os)(hg:InT ts g):InT (newT ts os) (mvG os g):=by
 intro i j x e;unfold mvG at e;obtain ⟨y,h1,h2⟩:=Option.map_eq_some_iff.mp e;rw [zbR h,<-h2];exact h.inv_in (hg i j y h1)
def zpW{ts:Z2}{os:List Int}(h:Ord ts.length os)(hg:InT ts g):mvG (con ts.length os) (mvG os g)=g:=by
 funext i j;unfold mvG
 cases e:g i j with
 | none=>rfl
 | some x=>show some (inv _ (inv os x))=_;rw [h.con_inv (hg i j x e)]
def zlb{ts:Z2}{os:List Int}(h:Ord ts.length os)(hg:InT ts g):za8 (newT ts os) r c (mvG os g) i j s=za8 ts r c g i j s:=by
 unfold za8 mvG;split
 ·cases e:g i j with
  | none=>rfl
  | some x=>show some (zbe _ (inv os x) s)=some _;rw [ze4 h (hg i j x e)]
 ·rfl
theorem zl2{os:List Int}(h:Ord n os)(h8:n<=8):(ST.zag os).length=os.length:=by
 have p:(ST.zag os).Perm os:=by
  rw [List.perm_ext_iff_of_nodup (ST.zeR ST.zbg) h.nd];intro x;rw [ST.za1];exact ⟨fun z=>z.2,fun z=>⟨by have:=h.mem.mp z;omega,z⟩⟩
 exact p.length_eq
def zjS{os:List Int}(h:Ord n os)(h8:n<=8):zc3 (zab os)=some (.int (os.length:Nat)):=by
 show (zbB (os.map D.int)).bind _=_;rw [zig];show (if _ then _ else _)=_;rw [if_pos (ybl.mpr fun x hx=>yaB (by have:=h.mem.mp hx;omega)),zl2 h h8]
def zg2{ts:Z2}{os:List Int}(h:Ord ts.length os)(h8:ts.length<=8):zb1 [.tup (ts.map zab),zab os] S=.ok (.bl true) S:=by
 have e1:=zh4 (l:=os.map D.int) (n:=ts.length) (S:=S)
 have e2:zbn (.one 0) zdE (eFn zaz [(zad 1),(zad 0)]) [none,some (false,.tup (ts.map zab))] (os.map D.int) S=.ok (os.map fun x=>D.bl true) S:=by
  rw [zaM (g:=fun _=>D.bl true),yaO];· rfl
  intro d hd;obtain ⟨x,hx,rfl⟩:=yat.mp hd;refine ⟨_,rfl,?_⟩
  have hb:∀y,some x=some y->0<=y/\y<((ts.map zab).length:Int):=fun y e=>by cases e;rw [yad];exact h.mem.mp hx
  have q:=zbc (ts:=ts.map zab) (o:=some x) (S:=S) hb;simp only [oD] at q;simp [q]
 have e3:zme [.lst (os.map fun x=>D.bl true)]=some (.bl true):=by
  rw [all_map (p:=fun _=>true)];simp
 have e4:zc3 (.tup (os.map D.int))=some (.int (os.length:Nat)):=zjS h h8;have hl:=h.len;show zb1 [.tup (ts.map zab),.tup (os.map D.int)] S=_;simp [zb1,zar,zeh,e1,e2,e3,e4,hl,show ts.length<=100000 by omega]
def zfE{ts:Z2}{os:List Int}(h:Ord ts.length os)(h8:ts.length<=8):zaq [.tup (ts.map zab),zab os] S=.ok .non S:=by
 have e:zb1 [.tup (ts.map zab),.tup (os.map D.int)] S=.ok (.bl true) S:=zg2 (S:=S) h h8;show zaq [.tup (ts.map zab),.tup (os.map D.int)] S=_;simp [zaq,zar,zbJ,e]
def zfD{ts:Z2}{os:List Int}(h:Ord ts.length os)(h8:ts.length<=8):zdm [.tup (ts.map zab),zab os] S=.ok (.tup ((newT ts os).map zab)) S:=by
 have e:zaq [.tup (ts.map zab),.tup (os.map D.int)] S=.ok .non S:=zfE (S:=S) h h8
 have e2:zbn (.one 0) zdE (zaf ixD (zak 1) (zak 0)) [none,some (false,.tup (ts.map zab))] (os.map D.int) S=.ok ((newT ts os).map zab) S:=by
  rw [zaM (g:=fun d=>match d with | .int o=>zab (ts.getD o.toNat []) | _=>.non)]
  ·unfold newT;rw [yaO,yaO];rfl
  ·intro d hd;obtain ⟨x,hx,rfl⟩:=yat.mp hd;have hb:=h.mem.mp hx
   have ea:atI (ts.map zab) x=some (zab (ts.getD x.toNat [])):=by
    rw [zmE hb.1 (by rw [yad];exact hb.2)];rw [yaf,yal,yaf,yab (by omega)];rfl
   exact ⟨_,rfl,by simp [ea]⟩
 have hl:=h.len;have hn:=zbR h;show zdm [.tup (ts.map zab),.tup (os.map D.int)] S=_;simp [zdm,zar,zgn,e,e2,hl,hn,show ts.length<=100000 by omega]
noncomputable def zp(os:List Int)(k:Nat):List (Option Int×Int):=(os.take k).zipIdx.map fun p=>(some p.1,(p.2:Int))
def zq0{os:List Int}{k:Nat}:(zp os k).length<=os.length:=by
 unfold zp;rw [yad,List.length_zipIdx,yaC];exact Nat.min_le_right _ _
def zqZ{os:List Int}(hn:os.Nodup){k:Nat}(h:os[k]?=some x):L2.zoc (zp os k) (some x) (k:Int)=zp os (k+1):=by
 have hk:k<os.length:=(yai.mp h).1
 have ht:os.take (k+1)=os.take k++[x]:=by
  rw [List.take_add_one,h];rfl
 have hz:zp os (k+1)=zp os k++[(some x,(k:Int))]:=by
  unfold zp;rw [ht,List.zipIdx_append,ybC];simp [yaC,yck (yca hk)]
 have hnot:((zp os k).any fun p=>decide (p.1=some x))=false:=by
  rw [yc1];intro p hp;unfold zp at hp;obtain ⟨q,hq,rfl⟩:=yat.mp hp
  have hm:q.1∈os.take k:=by
   have:=List.mem_zipIdx hq;rw [this.2.2];exact yaQ _
  simp only [yaZ,Option.some.injEq];intro e;rw [e] at hm;have hnd:(os.take (k+1)).Nodup:=List.Nodup.sublist (List.take_sublist _ _) hn;rw [ht] at hnd;have:=(List.nodup_append.mp hnd).2.2 x hm x (by simp);exact this rfl
 unfold L2.zoc;rw [hnot,hz];rfl
def zlo{os:List Int}:L2.zd0 (zp os os.length) none=none:=by
 unfold L2.zd0;rw [Option.map_eq_none_iff,List.find?_eq_none];intro p hp;unfold zp at hp;obtain ⟨q,_,rfl⟩:=yat.mp hp;simp
theorem zjf:∀(os:List Int) (a:Nat) (x:Int),x∈os->((os.zipIdx a).map fun p=>(some p.1,(p.2:Int))).find? (fun p=>decide (p.1=some x))=some (some x,((a+os.idxOf x:Nat):Int))
 | [],_,_,h=>by cases h
 | y::os,a,x,h=>by
  rw [List.zipIdx_cons,yav,ybY]
  by_cases e:y=x
  ·subst e;rw [show (decide ((some y,(a:Int)).1=some y))=true from yaB rfl];rw [List.idxOf_cons_self];rfl
  ·rw [show (decide ((some y,(a:Int)).1=some x))=false from yaW (fun z=>e (Option.some.inj z))]
   have hm:x∈os:=by
    rcases yau.mp h with z | z
    ·exact absurd z.symm e
    ·exact z
   have hb:(y == x)=false:=yaR.mpr e;dsimp only;rw [zjf os (a+1) x hm,List.idxOf_cons,hb];congr 2;show ((a+1+os.idxOf x:Nat):Int)=((a+(os.idxOf x+1):Nat):Int);omega
def zln{os:List Int}(h:x∈os):L2.zd0 (zp os os.length) (some x)=some (inv os x):=by
 unfold L2.zd0 zp;rw [List.take_length,zjf os 0 x h];show some _=some _;unfold inv;rw [Nat.zero_add]
def mvX(os:List Int):D->D | .int x=>.int (inv os x) | _=>.non
def zuY{os:List Int}{o:Option Int}:mvX os (oD o)=oD (o.map (inv os)):=by cases o<;>rfl
def zid{os:List Int}{g:Nat->Option Int}:(zcb c g).map (mvX os)=zcb c fun j=>(g j).map (inv os):=by
 unfold zcb;rw [yaO];congr 1;funext j;exact zuY
def zjH{os:List Int}{g:Nat->Option Int}(h:Ord n os)(hg:∀j x,g j=some x->0<=x/\x<n)(hc:c<=100):zdV [zea c g,zfQ (zp os os.length)] S=.ok (zea c fun j=>(g j).map (inv os)) S:=by
 have e:zbn (.one 0) zdE (zhy 1 (zad 0) (zad 0)) [none,some (false,zfQ (zp os os.length))] (zcb c g) S=.ok (zcb c fun j=>(g j).map (inv os)) S:=by
  rw [zaM (g:=mvX os),zid]
  ·intro d hd;obtain ⟨j,_,rfl⟩:=yat.mp hd
   cases e:g j with
   | none =>
    refine ⟨_,rfl,?_⟩;rw [zox (ps:=zp os os.length) (o:=false) (k:=.non) (z:=.non) (j:=none) (S1:=S) (S2:=S) rfl rfl rfl rfl,zlo];rfl
   | some x =>
    refine ⟨_,rfl,?_⟩;rw [zox (ps:=zp os os.length) (o:=false) (k:=.int x) (z:=.int x) (j:=some x) (S1:=S) (S2:=S) rfl rfl rfl rfl,zln (h.mem.mpr (hg j x e))];rfl
 simp [zdV,zar,zgo,zea,e,show c<=100000 by omega]
theorem zcV{ts:Z2}{os:List Int}(h:Ord ts.length os)(h8:ts.length<=8)(hg:InT ts g)(hr:r<=100)(hc:c<=100):zbE [.tup (ts.map zab),flr r c g,zab os] S=.ok (flr r c (mvG os g)) S:=by
 have e:zaq [.tup (ts.map zab),.tup (os.map D.int)] S=.ok .non S:=zfE (S:=S) h h8;have hl:=h.len
 obtain ⟨ρ',e1,x4,x5,rfl⟩:=zcn (tg:=.tup [4,5]) (body:=zdi) (ds:=zfm (os.map D.int)) (S:=S) (ρ:=[some (false,.tup (ts.map zab)),some (false,flr r c g),some (false,zab os),some (true,zfQ (zp os 0)),none,none]) (fun k ρ=>∃x4 x5,ρ=[some (false,.tup (ts.map zab)),some (false,flr r c g),some (false,zab os),some (true,zfQ (zp os k)),x4,x5]) (by
   rintro k d ρ hd ⟨x4,x5,rfl⟩;obtain ⟨y,hy,rfl⟩:=zhw hd;rw [yal] at hy;obtain ⟨x,hx,rfl⟩:=Option.map_eq_some_iff.mp hy;refine ⟨_,_,rfl,?_,some (false,.int k),some (false,.int x),rfl⟩;have hz:(zp os k).length<=100000:=yak zq0 (by omega);show (zaj (sFz [4] (zh1 3 (zad 5) (zad 4))) sNx) _ S=_;rw [<-zqZ h.nd hx];have q:=zr1 (i:=3) (ps:=zp os k) (fk:=zad 5) (fe:=zad 4) (k:=.int x) (j:=some x) (v:=(k:Int)) (S:=S) (S1:=S) (S2:=S) (ρ:=[some (false,.tup (ts.map zab)),some (false,flr r c g),some (false,zab os),some (true,zfQ (zp os k)),some (false,.int k),some (false,.int x)]) rfl rfl rfl rfl hz
   simp [q]) ⟨none,none,rfl⟩
 rw [zhv,yad] at e1
 have e2:zbn (.one 0) zdE (eFn zdV [(zad 0),(zad 1)]) [none,some (false,zfQ (zp os os.length))] (zcd r c g) S=.ok (zcd r c (mvG os g)) S:=by
  rw [zaM (g:=fun d=>match d with | .tup l=>.tup (l.map (mvX os)) | _=>.non)]
  ·unfold zcd zea;rw [yaO];congr 2;funext i;show D.tup _=_;rw [zid];rfl
  ·intro d hd;obtain ⟨i,_,rfl⟩:=yat.mp hd;refine ⟨_,rfl,?_⟩;show _=Out.ok (D.tup ((zcb c (g i)).map (mvX os))) S;rw [zid];have q:=zjH (c:=c) (g:=g i) (S:=S) h (fun j x e=>hg i j x e) hc;simp only [zea] at q ⊢;simp [q]
 have e0:zfQ (zp os 0)=zfQ []:=by unfold zp;simp
 rw [e0] at e1;have e1':zfx (.tup [4,5]) zdi (zfm (os.map D.int)) [some (false,.tup (ts.map zab)),some (false,.tup (zcd r c g)),some (false,.tup (os.map D.int)),some (true,zfQ []),none,none] S=.nx [some (false,.tup (ts.map zab)),some (false,.tup (zcd r c g)),some (false,.tup (os.map D.int)),some (true,zfQ (zp os os.length)),x4,x5] S:=e1;rw [hl] at e1' e2;show zbE [.tup (ts.map zab),.tup (zcd r c g),.tup (os.map D.int)] S=.ok (.tup (zcd r c (mvG os g))) S;simp [zbE,zar,zej,e,e1',e2,hl,show r<=100000 by omega,show ts.length<=100000 by omega]
noncomputable def sm(n:Nat)(f:Nat->Nat):Nat:=((List.range n).map f).sum
def zeS:sm (n+1) f=sm n f+f n:=by simp [sm,ybB]
theorem zeE(h:∀i,i<n->f i=g i):sm n f=sm n g:=by
 induction n with
 | zero=>rfl
 | succ k ih=>rw [zeS,zeS,ih fun i hi=>h i (by omega),h k (by omega)]
theorem zn8:sm n (fun i=>f i+g i)=sm n f+sm n g:=by
 induction n with
 | zero=>rfl
 | succ k ih=>rw [zeS,zeS,zeS,ih];omega
noncomputable def mt2:Option Int->Option Int->Option Bool | some a,some b=>some (decide (a=b)) | _,_=>none
def eaM(ts:Z2)(r c:Nat)(g:Z1)(i j:Nat):Option Bool:=mt2 (za8 ts r c g i j 1) (za8 ts r c g i (j+1) 3)
def soM(ts:Z2)(r c:Nat)(g:Z1)(i j:Nat):Option Bool:=mt2 (za8 ts r c g i j 2) (za8 ts r c g (i+1) j 0)
noncomputable def alN:Option Bool->Nat | some true=>1 | _=>0
noncomputable def unN:Option Bool->Nat | some false=>1 | _=>0
def zhO(φ:Option Bool->Nat)(ts:Z2)(r c:Nat)(g:Z1):Nat:=sm r fun i=>sm c fun j=>φ (eaM ts r c g i j)+φ (soM ts r c g i j)
def zmO{r c:Nat}{β:Type}{F:D->List β}:(zck r c).flatMap F=(List.range r).flatMap fun i=>(List.range c).flatMap fun j=>F (plD i j):=by
 unfold zck;rw [List.flatMap_assoc];congr 1;funext i;rw [List.flatMap_map]
def zfR{r c:Nat}{β:Type}{F:D->List β}{p:β->Bool}:((zck r c).flatMap F).countP p=sm r fun i=>sm c fun j=>(F (plD i j)).countP p:=by
 rw [zmO,List.countP_flatMap];unfold sm;congr 1;apply yb9;intro i _;show List.countP p (List.flatMap _ _)=_;rw [List.countP_flatMap];rfl
def prD(a b:Option Int):D:=.tup [oD a,oD b]
def meG(ts:Z2)(r c:Nat)(g:Z1):D->List D
 | .tup [.int i,.int j]=>[prD (za8 ts r c g i.toNat j.toNat 1) (za8 ts r c g i.toNat (j.toNat+1) 3),prD (za8 ts r c g i.toNat j.toNat 2) (za8 ts r c g (i.toNat+1) j.toNat 0)]
 | _=>[]
noncomputable def isM:D->Bool | .tup [.int _,.int _]=>true | _=>false
noncomputable def isE:D->Bool | .tup [.int a,.int b]=>decide (a=b) | _=>false
def zp1:(meG ts r c g d).length<=2:=by
 unfold meG
 split<;>simp
def zlk(hr:r<=100)(hc:c<=100):((zck r c).flatMap (meG ts r c g)).length<=20000:=by
 refine yak (zgm fun d _=>zp1) ?_;rw [zdJ];have:r*c<=100*100:=ybo hr hc;omega
def zsC:zkd .non (prD a b)=some (.bl (isM (prD a b))):=by
 cases a<;>cases b<;>rfl
def zor(h:d∈(zck r c).flatMap (meG ts r c g)):∃a b,d=prD a b:=by
 rw [ybm] at h;obtain ⟨p,hp,hd⟩:=h;obtain ⟨i,j,_,_,rfl⟩:=zcZ hp;simp only [plD,meG,yau,ya4,ycu] at hd
 rcases hd with rfl | rfl<;>exact ⟨_,_,rfl⟩
theorem zg1(ht:TOk ts)(hg:InT ts g)(h1:1<=r)(hr:r<=100)(hc:c<=100):zdn [.tup (ts.map zab),flr r c g] S=.ok (.lst (((zck r c).flatMap (meG ts r c g)).filter isM)) S:=by
 have hlen:=zlk (ts:=ts) (g:=g) hr hc
 obtain ⟨x',e⟩:=zeL (tg:=.one 3) (body:=zdh) (S:=S) (fun L (x:Option (Bool×D))=>[some (false,.tup (ts.map zab)),some (false,flr r c g),some (true,.lst L),x]) (meG ts r c g) 50000 (ds:=zck r c) (by
  intro d hd L x hL;obtain ⟨i,j,hi,hj,rfl⟩:=zcZ hd;refine ⟨_,some (false,plD i j),rfl,?_⟩;have e1:=ziI (i:=i) (j:=j) (S:=S) (c:=c) ht hg h1;have e2:=zgZ (i:=i) (j:=j) (S:=S) (c:=c) ht hg h1
  have hl:L.length<=100000:=by omega
  have hl1:L.length+1<=100000:=by simp [meG] at hL;omega
  simp only [plD] at e1 e2
  simp [zdh,plD,e1,e2,meG,prD,hl,hl1]) [] none (by simp only [ycT];omega)
 simp at e
 have e2:zbn (.one 0) (zaf zkd (zae .non) (zak 0)) (zad 0) [none] ((zck r c).flatMap (meG ts r c g)) S=.ok (((zck r c).flatMap (meG ts r c g)).filter isM) S:=by
  rw [zde (g:=id) (p:=isM)]
  ·simp
  ·intro d hd;obtain ⟨a,b,rfl⟩:=zor hd;exact ⟨_,rfl,by simp [zsC],fun _=>by simp⟩
 have hf:(((zck r c).flatMap (meG ts r c g)).filter isM).length<=100000:=yak (ya1 _ _) (by omega);simp [zdn,zar,zeg,zdk h1 hr hc,e,e2,hf]
theorem zg0(ht:TOk ts)(hg:InT ts g)(h1:1<=r)(hr:r<=100)(hc:c<=100):ze0 [.tup (ts.map zab),flr r c g] S=.ok (.tup [.int (zhO alN ts r c g),.int (zhO unN ts r c g)]) S:=by
 have hlen:=zlk (ts:=ts) (g:=g) hr hc;have e0:=zg1 (S:=S) ht hg h1 hr hc;have hf:(((zck r c).flatMap (meG ts r c g)).filter isM).length<=100000:=yak (ya1 _ _) (by omega)
 have hM:(((zck r c).flatMap (meG ts r c g)).filter isM).length=zhO alN ts r c g+zhO unN ts r c g:=by
  rw [<-List.countP_eq_length_filter,zfR];unfold zhO;rw [<-zn8];refine zeE fun i _=>?_
  rw [<-zn8];refine zeE fun j _=>?_
  simp only [plD,meG,yaI,eaM,soM]
  cases za8 ts r c g i j 1<;>cases za8 ts r c g i (j+1) 3<;>cases za8 ts r c g i j 2<;>cases za8 ts r c g (i+1) j 0<;>simp [prD,oD,isM,mt2,alN,unN,ycB]<;>(repeat' split)<;>simp_all
 have e2:zbn (.one 0) (zaf eqD (zaf ixD (zak 0) (zae (.int 0))) (zaf ixD (zak 0) (zae (.int 1)))) (zad 0) [none] (((zck r c).flatMap (meG ts r c g)).filter isM) S=.ok ((((zck r c).flatMap (meG ts r c g)).filter isM).filter isE) S:=by
  rw [zde (g:=id) (p:=isE)]
  ·simp
  ·intro d hd;obtain ⟨hd1,hd2⟩:=ybM.mp hd;obtain ⟨a,b,rfl⟩:=zor hd1
   cases a<;>cases b<;>simp [prD,oD,isM] at hd2
   exact ⟨_,rfl,by simp [prD,oD,isE],fun _=>by simp [prD,oD]⟩
 have hE:((((zck r c).flatMap (meG ts r c g)).filter isM).filter isE).length=zhO alN ts r c g:=by
  rw [List.filter_filter,<-List.countP_eq_length_filter,zfR];unfold zhO;refine zeE fun i _=>zeE fun j _=>?_
  simp only [plD,meG,yaI,eaM,soM]
  cases za8 ts r c g i j 1<;>cases za8 ts r c g i (j+1) 3<;>cases za8 ts r c g i j 2<;>cases za8 ts r c g (i+1) j 0<;>simp [prD,oD,isM,isE,mt2,alN,ycB]<;>(repeat' split)<;>simp_all
 have hf2:((((zck r c).flatMap (meG ts r c g)).filter isM).filter isE).length<=100000:=yak (ya1 _ _) hf;generalize (((zck r c).flatMap (meG ts r c g)).filter isM)=M at *;generalize M.filter isE=A at *;rw [hE] at hf2;simp [ze0,zar,zik,e0,e2,hf2,hM,hE];omega
def zsS(i:Nat)(ρ:Env)(l:List D)(d:D):Out D->Fo
 | .ok (.int n) S2=>(match ixN l.length n with | some k=>.nx (ρ.set i (some (true,.lst (l.set k d)))) S2 | none=>.bad)
 | .ok _ _=>.bad
 | .exc c S2=>.ex c ρ S2 | .bad=>.bad
noncomputable def zp6(i:Nat)(fi:Fe)(ρ:Env)(l:List D):Out D->Fo | .ok d S1=>zsS i ρ l d (fi ρ S1) | .exc c S1=>.ex c ρ S1 | .bad=>.bad
noncomputable def zzt(i:Nat)(fi fe:Fe)(ρ:Env)(S:Sto):Option (Option (Bool×D))->Fo | some (some (true,.lst l))=>zp6 i fi ρ l (fe ρ S) | _=>.bad
noncomputable def zxG(und:Str->Str->Bool)(C:Str)(i j:Nat):Fo->Fo
 | .ex c ρ' S'=>if und c C&&decide (i<ρ'.length) then .nx ((ρ'.set j (some (false,.exc c))).set i none) S' else .bad
 | o=>o
section
variable{ρ:Env}{S:Sto}{f g:Fe}{a:Fs}
@[simp] def zy0:zzt i f g ρ S (some (some (true,.lst l)))=zp6 i f ρ l (g ρ S):=(rfl)
@[simp] def zwY:zp6 i f ρ l (.ok d S)=zsS i ρ l d (f ρ S):=(rfl)
@[simp] def zwX:zxG und C i j (.nx ρ S)=.nx ρ S:=(rfl)
@[simp] def zwW:zxG und C i j (.ex c ρ S)=if und c C&&decide (i<ρ.length) then .nx ((ρ.set j (some (false,.exc c))).set i none) S else .bad:=(rfl)
@[simp] def zyi:zzw w C (.exc c)=(w c C).map .bl:=(rfl)
@[simp] def zwc:zc5 (.exc c)=false:=(rfl)
@[simp] def zwb:zc5 (.lst l)=false:=(rfl)
@[simp] def zwg:zjN (.lst l) (.int j)=if decide (0<=j/\j<=1000/\l.length<=1000) then some (.lst (List.replicate j.toNat l).flatten) else none:=(rfl)
end
noncomputable abbrev Gf:=Nat->Nat->Option Int
noncomputable def ov(g h:Gf):Gf:=fun i j=>(h i j).or (g i j)
noncomputable def un(g h:Gf):Gf:=fun i j=>if (h i j).isSome then none else g i j
noncomputable def sh1:D->Bool | .non=>true | .bl _=>true | .int _=>true | .str _=>true | .tup _=>true | .lst _=>true | _=>false
def sh2:D->Bool | .tup l=>l.all sh1 | d=>sh1 d
def zxN(c f:Str):Out D->Out D | .ok d S=>(match zjd c f d S with | some r=>.ok r S | none=>.bad) | .exc c S=>.exc c S | .bad=>.bad
noncomputable def zi8(G:List D->Sto->Out D)(d:D):Out (List D)->Out D | .ok ds S=>G (d::ds) S | .exc c S=>.exc c S | .bad=>.bad
def zsW(c m:Str)(G:List D->Sto->Out D)(fs:List Fe)(ρ:Env):Out D->Out D | .ok d S=>if zc2 c m d S then zi8 G d (zal fs ρ S) else .bad | .exc c S=>.exc c S | .bad=>.bad
noncomputable def ztR(n:Nat):Out D->Out D | .ok r S=>(match r with | .non=>.ok (.ref n) S | _=>.bad) | .exc c S=>.exc c S | .bad=>.bad
noncomputable def kMk(c:Str)(dds:List D)(G:List D->Sto->Out D):Out (List D)->Out D | .ok ds S=>ztR S.length (G (.ref S.length::(ds++dds)) (S++[⟨c,[]⟩])) | .exc c S=>.exc c S | .bad=>.bad
def znj(c f:Str)(dk:D):Out D->Out D | .ok d S=>(match zi1 dk,zgF c f d S with | some k,some (_,_,ds)=>.ok (.bl (zbl k ds).isNone) S | _,_=>.bad) | .exc c S=>.exc c S | .bad=>.bad
noncomputable def zxI(c f:Str)(fo:Fe)(ρ:Env):Out D->Out D | .ok d S=>znj c f d (fo ρ S) | .exc c S=>.exc c S | .bad=>.bad
def zxL(c f:Str)(o:Option NK):Out D->Out D | .ok d S=>(match o,zgF c f d S with | some k,some (_,_,ds)=>(match zbl k ds with | some r=>.ok r S | none=>.bad) | _,_=>.bad) | .exc c S=>.exc c S | .bad=>.bad
section
variable{ρ:Env}{S:Sto}{f g h k:Fe}
@[simp] def zwv:zfP c x f ρ S=zxN c x (f ρ S):=by unfold zfP;cases f ρ S<;>rfl
@[simp] def zzi:zxN c x (.ok d S)=(match zjd c x d S with | some r=>.ok r S | none=>.bad):=(rfl)
@[simp] def zue:zb9 c m G f fs ρ S=zsW c m G fs ρ (f ρ S):=by
 unfold zb9
 cases f ρ S with
 | ok d S1 =>
  show (if zc2 c m d S1 then (zal fs ρ S1).bind fun ds S2=>G (d::ds) S2 else .bad)=(if zc2 c m d S1 then zi8 G d (zal fs ρ S1) else .bad)
  cases zal fs ρ S1<;>rfl
 | exc c S=>rfl
 | bad=>rfl
@[simp] def zxg:zsW c m G fs ρ (.ok d S)=if zc2 c m d S then zi8 G d (zal fs ρ S) else .bad:=(rfl)
@[simp] def zu4:zi8 G d (.ok ds S)=G (d::ds) S:=(rfl)
@[simp] def zyr:eMk c dds G fs ρ S=kMk c dds G (zal fs ρ S):=by
 unfold eMk
 cases zal fs ρ S with
 | ok ds S1 =>
  show ((G (.ref S1.length::(ds++dds)) (S1++[⟨c,[]⟩])).bind fun r S2=>match r with | .non=>.ok (.ref S1.length) S2 | _=>.bad)=ztR S1.length (G (.ref S1.length::(ds++dds)) (S1++[⟨c,[]⟩]))
  cases G (.ref S1.length::(ds++dds)) (S1++[⟨c,[]⟩])<;>rfl
 | exc c S=>rfl
 | bad=>rfl
@[simp] def zzY:kMk c dds G (.ok ds S)=ztR S.length (G (.ref S.length::(ds++dds)) (S++[⟨c,[]⟩])):=(rfl)
@[simp] def zy7:ztR n (.ok .non S)=.ok (.ref n) S:=(rfl)
@[simp] def zws:zoD c x f g ρ S=zxI c x g ρ (f ρ S):=by
 unfold zoD
 cases f ρ S with
 | ok d S1 =>
  show ((g ρ S1).bind fun d' S2=>match zi1 d,zgF c x d' S2 with | some k,some (_,_,ds)=>.ok (.bl (zbl k ds).isNone) S2 | _,_=>.bad)=znj c x d (g ρ S1)
  cases g ρ S1<;>rfl
 | exc c S=>rfl
 | bad=>rfl
@[simp] def zy5:zxI c x g ρ (.ok d S)=znj c x d (g ρ S):=(rfl)
@[simp] def zxf:znj c x dk (.ok d S)=(match zi1 dk,zgF c x d S with | some k,some (_,_,ds)=>.ok (.bl (zbl k ds).isNone) S | _,_=>.bad):=(rfl)
@[simp] def zwu:zjZ c x f i ρ S=zxL c x (zke ρ i) (f ρ S):=by unfold zjZ;cases f ρ S<;>rfl
@[simp] def zze:zxL c x o (.ok d S)=(match o,zgF c x d S with | some k,some (_,_,ds)=>(match zbl k ds with | some r=>.ok r S | none=>.bad) | _,_=>.bad):=(rfl)
end
noncomputable def wOb(T Gd Sz:D)(b:Bool)(ds:List (D×D)):Ob:=⟨"Ways",[("tiles",false,T),("ground",false,Gd),("size",false,Sz),("is_round",false,.bl b),("known",true,.dic ds)]⟩
def zsB(o:Option Int):oDn o=oD o:=by cases o<;>rfl
structure WAt(S:Sto)(n:Nat)(ts:Z2)(gr:Z4)(r c:Nat)(b:Bool)(ds:List (D×D)):Prop where
 at_:S[n]?=some (wOb (.tup (ts.map zab)) (.lst (gr.map oD)) (.tup [.int r,.int c]) b ds)
section
variable{S:Sto}{n:Nat}{ts:Z2}{gr:Z4}{r c:Nat}{b:Bool}{ds:List (D×D)}
theorem WAt.tiles(h:WAt S n ts gr r c b ds):zjd "Ways" "tiles" (.ref n) S=some (.tup (ts.map zab)):=by
 unfold zjd;dsimp only;rw [h.at_];rfl
theorem WAt.ground(h:WAt S n ts gr r c b ds):zjd "Ways" "ground" (.ref n) S=some (.lst (gr.map oD)):=by
 unfold zjd;dsimp only;rw [h.at_];rfl
theorem WAt.size(h:WAt S n ts gr r c b ds):zjd "Ways" "size" (.ref n) S=some (.tup [.int r,.int c]):=by
 unfold zjd;dsimp only;rw [h.at_];rfl
def WAt.round(h:WAt S n ts gr r c b ds):zjd "Ways" "is_round" (.ref n) S=some (.bl b):=by
 unfold zjd;dsimp only;rw [h.at_];rfl
theorem WAt.known(h:WAt S n ts gr r c b ds):zgF "Ways" "known" (.ref n) S=some (n,wOb (.tup (ts.map zab)) (.lst (gr.map oD)) (.tup [.int r,.int c]) b ds,ds):=by
 unfold zgF;dsimp only;rw [h.at_];rfl
def WAt.meth(h:WAt S n ts gr r c b ds)(m:Str)(hm:(m == "tiles")=false/\(m == "ground")=false/\(m == "size")=false/\(m == "is_round")=false/\(m == "known")=false):zc2 "Ways" m (.ref n) S=true:=by
 unfold zc2;dsimp only;rw [h.at_];obtain ⟨h1,h2,h3,h4,h5⟩:=hm;simp [wOb,yaz,h1,h2,h3,h4,h5]
def WAt.len(h:WAt S n ts gr r c b ds):n<S.length:=(yai.mp h.at_).1
def WAt.put(h:WAt S n ts gr r c b ds)(ds':List (D×D)):WAt (S.set n (wOb (.tup (ts.map zab)) (.lst (gr.map oD)) (.tup [.int r,.int c]) b ds')) n ts gr r c b ds':=⟨by rw [yaH h.len]⟩
def zbk(s:Z4):D:=.tup (s.map oD)
def zmw:zi1 (.tup [.int k,zbk s])=some (k,s):=by
 have:zbk s=.tup (s.map oDn):=by unfold zbk;rw [show oDn=oD from funext zsB]
 rw [this];exact zdY (k,s)
theorem zje{α:Type}{a:α}:∀m:Nat,(List.replicate m [a]).flatten=List.replicate m a
 | 0=>rfl
 | m+1=>by rw [ya8,yby,zje m,ya8];rfl
theorem zfu(h:WAt S n ts gr r c b ds)(hc:c<=100):za2 [.ref n] S=.ok (zbk (List.replicate (c+2) none)) S:=by
 have e:zi3 (.tup [.non]) (.int ((c:Int)+2))=some (zbk (List.replicate (c+2) none)):=by
  show (if _ then _ else _)=_;rw [if_pos (by simp;omega),show ((c:Int)+2).toNat=c+2 by omega,zje];simp [zbk,oD]
 simp [za2,zar,zbK,h.size,e]
theorem zep{k:Nat}(h:WAt S n ts gr r c b ds)(hc:1<=c):zaL [.ref n,.int k] S=.ok (.bl (decide ((k+1) % c=0))) S:=by
 have e:(((k:Int)+1) % (c:Int))=(((k+1) % c:Nat):Int):=by rw [Int.natCast_emod];rfl
 have e3:(((k:Int)+1) % (c:Int)=0)=((k+1) % c=0):=propext (by rw [e];omega);simp [zaL,zar,zb7,h.size,show 0<c from hc,e3]
def crO(ts:Z2)(c k:Nat)(s:Z4)(x:Int):Option Int:=if k % c=0 then some (zbe ts x 3) else (s.getLastD none)
def zj8(ts:Z2)(L c:Nat)(b:Bool)(k:Nat)(s:Z4)(x:Int):List (Option Int) :=
 (if (k+1) % c=0 then none else some (zbe ts x 1))::((s.drop 2).dropLast++[if L<=k+c then none else some (zbe ts x 2),if b&&!decide ((k+1) % c=0) then crO ts c k s x else none])
def tl(ts:Z2)(x:Int):D:=.tup [.int (zbe ts x 0),.int (zbe ts x 1),.int (zbe ts x 2),.int (zbe ts x 3)]
noncomputable def okO:Option Int->Int->Bool | none,_=>true | some a,y=>decide (a=y)
def zjW(ts:Z2)(c:Nat)(b:Bool)(k:Nat)(s:Z4)(x:Int):Bool :=
 okO (s.getD 0 none) (zbe ts x 3)&&okO (s.getD 1 none) (zbe ts x 0)&&(!b||!decide ((k+1) % c=0)||decide (some (zbe ts x 1)=crO ts c k s x))
def zgY:zeZ [oD o,.int y] S=.ok (.bl (okO o y)) S:=by
 cases o<;>simp [zeZ,zar,zij,oD,okO]
theorem zls(h:s≠[]):atI (s.map oD) (-1)=some (oD (s.getLastD none)):=by
 have hl:0<s.length:=List.length_pos_iff.mpr h;unfold atI ixN;rw [yad,if_neg (by omega),if_pos (by omega)];show (s.map oD)[(-1+(s.length:Int)).toNat]?=_;rw [show (-1+(s.length:Int)).toNat=s.length-1 by omega,yal,ybK,List.getLast?_eq_getElem?,yab (by omega)];rfl
theorem zcS{k:Nat}{s:Z4}(h:WAt S n ts gr r c b ds)(hc:1<=c)(hs:s.length=c+2):zap [.ref n,.int k,zbk s,tl ts x] S=.ok (oD (crO ts c k s x)) S:=by
 have e:((k:Int) % (c:Int))=((k % c:Nat):Int):=by rw [Int.natCast_emod]
 have e3:((k:Int) % (c:Int)=0)=(k % c=0):=propext (by rw [e];omega);have el:=zls (s:=s) (by rintro rfl;simp at hs)
 by_cases z:k % c=0
 ·simp [zap,zar,zaR,h.size,show 0<c from hc,e3,z,crO,tl,oD]
 ·simp [zap,zar,zaR,h.size,show 0<c from hc,e3,z,crO,zbk,el]
theorem zqw{α:Type}{l:List α}(h:3<=l.length):zlR l (some 2) (some (-1))=(l.drop 2).dropLast:=by
 unfold zlR
 have e1:HT.sIx l.length 0 (some 2)=2:=by
  unfold HT.sIx;simp;omega
 have e2:HT.sIx l.length l.length (some (-1))=l.length-1:=by
  unfold HT.sIx;simp;omega
 rw [e1,e2,List.dropLast_eq_take,ybf];congr 1
noncomputable def sb6:Fe:=eIf (zad 4) (zae .non) (zaf ixD (zak 3) (zae (.int 1)))
noncomputable def sb7:Fe:=eIf (zad 5) (zae .non) (zaf ixD (zak 3) (zae (.int 2)))
noncomputable def sb8:Fe:=eIf (zgr (zfP "Ways" "is_round" (zad 0)) (eUn zet (zad 4))) (zb9 "Ways" "colour_round" zap (zad 0) [(zad 1),(zad 2),(zad 3)]) (zae .non)
noncomputable def sbF:Fs:=(zaj (sFz [1] (zbV 4 false (zb9 "Ways" "ends_row" zaL (zad 0) [(zad 1)])))
  (zaj (sFz [] (zbV 5 false (zaf geD (zaf zcz (zak 1) (zaf ixD (zfP "Ways" "size" (zad 0)) (zae (.int 1)))) (zas zcH [(zfP "Ways" "ground" (zad 0))]))))
  (zaj (sFz [4] (zbV 6 false sb6)) (zaj (sFz [5] (zbV 7 false sb7)) (zaj (sFz [4,1,2,3] (zbV 8 false sb8))
  (zaj (sFz [6,7,8] (za6 (zaf zcz (zaf zcz (zdd [(zad 6)]) (eSl (zak 2) (some (zae (.int 2))) (some (eUn zop (zae (.int 1)))))) (zdd [(zad 7),(zad 8)])))) sNx))))))
def zrO:zby=sbF:=rfl
def zxS(h1:ρ[i]?=some (some (false,.bl bb)))(h2:ρ[j]?=some (some (false,.tup l)))(h3:atI l q=some d):eIf (zad i) (zae .non) (zaf ixD (zak j) (zae (.int q))) ρ S=.ok (if bb then .non else d) S:=by
 cases bb<;>simp [h1,h2,h3]
theorem zzy(h:WAt S n ts gr r c b ds)(hc:1<=c)(hs:s.length=c+2)(h0:ρ[0]?=some (some (false,.ref n)))(h1:ρ[1]?=some (some (false,.int k)))(h2:ρ[2]?=some (some (false,zbk s)))(h3:ρ[3]?=some (some (false,tl ts x)))(h4:ρ[4]?=some (some (false,.bl bb))) :
  sb8 ρ S=.ok (if b&&!bb then oD (crO ts c k s x) else .non) S:=by
 have e2:=zcS (k:=k) (s:=s) (x:=x) h hc hs;have m2:=h.meth "colour_round" (by decide +kernel);generalize tl ts x=tt at *;generalize zbk s=sd at *;cases b
 ·simp [sb8,h0,h.round]
 ·cases bb<;>simp [sb8,h0,h1,h2,h3,h4,h.round,m2,e2]
theorem zeV{k:Nat}{s:Z4}(h:WAt S n ts gr r c b ds)(hc:1<=c)(hc2:c<=100)(hs:s.length=c+2):zaV [.ref n,.int k,zbk s,tl ts x] S=.ok (zbk (zj8 ts gr.length c b k s x)) S:=by
 have e1:=zep (k:=k) h hc;have m1:=h.meth "ends_row" (by decide +kernel);have eg:((gr.length:Int)<=(k:Int)+(c:Int))=(gr.length<=k+c):=propext (by omega)
 have ec:zlR (s.map oD) (some 2) (some (-1))=((s.drop 2).dropLast).map oD:=by
  rw [zqw (by rw [yad];omega),List.map_dropLast,yc7]
 have hl:((s.drop 2).dropLast).length<=100:=by rw [ycH,ybf,hs];omega
 have E6:=fun (ρ:Env) (h4:ρ[4]?=some (some (false,.bl (decide ((k+1) % c=0))))) (h3:ρ[3]?=some (some (false,tl ts x)))=>(show sb6 ρ S=_ from zxS (S:=S) (i:=4) (j:=3) (q:=1) (d:=.int (zbe ts x 1)) h4 h3 rfl)
 have E7:=fun (ρ:Env) (h4:ρ[5]?=some (some (false,.bl (decide (gr.length<=k+c))))) (h3:ρ[3]?=some (some (false,tl ts x)))=>(show sb7 ρ S=_ from zxS (S:=S) (i:=5) (j:=3) (q:=2) (d:=.int (zbe ts x 2)) h4 h3 rfl)
 have E8:=fun (ρ:Env)=>zzy (k:=k) (s:=s) (x:=x) (bb:=decide ((k+1) % c=0)) (ρ:=ρ) h hc hs
 have ef:zbk (zj8 ts gr.length c b k s x)=.tup ([if decide ((k+1) % c=0) then .non else .int (zbe ts x 1)]++((s.drop 2).dropLast).map oD++[if decide (gr.length<=k+c) then .non else .int (zbe ts x 2),if b&&!decide ((k+1) % c=0) then oD (crO ts c k s x) else .non]):=by
  unfold zj8 zbk
  by_cases z1:(k+1) % c=0<;>by_cases z2:gr.length<=k+c<;>cases b<;>simp [z1,z2,oD]
 rw [ef];clear ef;have hsd:zbk s=.tup (s.map oD):=rfl;rw [hsd] at E8 ⊢;generalize oD (crO ts c k s x)=cr at *;generalize ((s.drop 2).dropLast)=M at ec hl ⊢;generalize s.map oD=sd at *;generalize tl ts x=tt at *;generalize (if decide ((k+1) % c=0) then D.non else .int (zbe ts x 1))=d6 at *;generalize (if decide (gr.length<=k+c) then D.non else .int (zbe ts x 2))=d7 at *;generalize (if b&&!decide ((k+1) % c=0) then cr else .non)=d8 at *
 have l1:1+M.length<=100000:=by omega
 have l2:M.length+1+2<=100000:=by omega
 have l3:M.length+1+1+1<=100000:=by omega
 simp only [zaV,zar,zrO];simp [sbF,h.size,h.ground,m1,e1,eg,E6,E7,E8,ec,l1,l2,l3]
end
noncomputable def ziV(ts:Z2):Option Int->List Int | none=>(List.range ts.length).map fun (i:Nat)=>(i:Int) | some x=>[x]
theorem zpQ(ho:∀x,o=some x->0<=x/\x<ts.length):∀x∈ziV ts o,0<=x/\x<ts.length:=by
 intro x hx
 cases o with
 | none =>
  obtain ⟨i,hi,rfl⟩:=yat.mp hx;have:=ybc.mp hi;omega
 | some y=>rw [yaF.mp hx];exact ho y rfl
section
variable{S:Sto}{n:Nat}{ts:Z2}{gr:Z4}{r c:Nat}{b:Bool}{ds:List (D×D)}
theorem zeW{k:Nat}(h:WAt S n ts gr r c b ds)(ht:ts.length<=100)(hk:gr[k]?=some o)(ho:∀x,o=some x->0<=x/\x<ts.length):zaE [.ref n,.int k] S=.ok (.lst ((ziV ts o).map D.int)) S:=by
 have e1:atI (gr.map oD) (k:Int)=some (oD o):=by rw [zcq,yal,hk];rfl
 have e2:=zbc (ts:=ts.map zab) (o:=o) (S:=S) (fun x hx=>by simpa using ho x hx)
 cases o with
 | none =>
  have e3:lrD (.int (ts.length:Int))=some (.lst (((List.range ts.length).map fun (i:Nat)=>(i:Int)).map D.int)):=by
   show (if decide (0<=(ts.length:Int)/\(ts.length:Int)<=1000)=true then _ else none)=_;rw [if_pos (yaB ⟨by omega,by omega⟩),yaI,yaO];rfl
  simp [zaE,zar,zaW,h.ground,h.tiles,e1,oD,e3,ziV]
 | some x =>
  simp only [oD] at e2;simp [zaE,zar,zaW,h.ground,h.tiles,e1,oD,e2,ziV]
theorem zmC{k:Nat}{s:Z4}(h:WAt S n ts gr r c b ds)(hc:1<=c)(hs:s.length=c+2):zcI [.ref n,.int k,zbk s,tl ts x] S=.ok (.bl (zjW ts c b k s x)) S:=by
 have e1:=zep (k:=k) h hc;have e2:=zcS (k:=k) (s:=s) (x:=x) h hc hs;have m1:=h.meth "ends_row" (by decide +kernel);have m2:=h.meth "colour_round" (by decide +kernel);have m3:=h.meth "fits_round" (by decide +kernel);have tlE:tl ts x=.tup [.int (zbe ts x 0),.int (zbe ts x 1),.int (zbe ts x 2),.int (zbe ts x 3)]:=rfl
 have e3:zaK [.ref n,.int k,zbk s,tl ts x] S=.ok (.bl (!b||!decide ((k+1) % c=0)||decide (some (zbe ts x 1)=crO ts c k s x))) S:=by
  have eq:∀o:Option Int,eqD (.int (zbe ts x 1)) (oD o)=some (.bl (decide (some (zbe ts x 1)=o))):=by
   intro o
   cases o with
   | none=>rfl
   | some y=>simp [oD]
  rw [tlE] at e2 ⊢;generalize zbk s=sd at e2 ⊢;generalize crO ts c k s x=cr at e2 ⊢
  cases b with
  | false=>simp [zaK,zar,za3,h.round]
  | true=>by_cases z:(k+1) % c=0<;>simp [zaK,zar,za3,h.round,m1,m2,e1,e2,z,eq]
 have g0:(s.map oD)[0]?=some (oD (s.getD 0 none)):=by
  rw [yal,yaf,yab (by omega)];rfl
 have g1:(s.map oD)[1]?=some (oD (s.getD 1 none)):=by
  rw [yal,yaf,yab (by omega)];rfl
 have s0:=zgY (S:=S) (o:=s.getD 0 none) (y:=zbe ts x 3);have s1:=zgY (S:=S) (o:=s.getD 1 none) (y:=zbe ts x 0);unfold zjW;generalize (!b||!decide ((k+1) % c=0)||decide (some (zbe ts x 1)=crO ts c k s x))=rr at e3 ⊢;unfold zbk at e3 ⊢;generalize s.map oD=sd at e3 g0 g1 ⊢;generalize s.getD 0 none=q0 at g0 s0 ⊢;generalize s.getD 1 none=q1 at g1 s1 ⊢;rw [tlE] at e3 ⊢
 cases h0:okO q0 (zbe ts x 3)<;>cases h1:okO q1 (zbe ts x 0)<;>rw [h0] at s0<;>rw [h1] at s1 <;>
  simp [zcI,zar,zdP,g0,g1,s0,s1,m3,e3]
def chD(p:Int×List (Option Int)):D:=.tup [.int p.1,zbk p.2]
def chs(ts:Z2)(gr:Z4)(c:Nat)(b:Bool)(k:Nat)(s:Z4):List (Int×List (Option Int)) :=
 ((ziV ts (gr.getD k none)).filter (zjW ts c b k s)).map fun x=>(x,zj8 ts gr.length c b k s x)
def chG(ts:Z2)(L c:Nat)(b:Bool)(k:Nat)(s:Z4):D->List D
 | .int x=>if zjW ts c b k s x then [chD (x,zj8 ts L c b k s x)] else []
 | _=>[]
theorem zgv:∀l:List Int,(l.map D.int).flatMap (chG ts L c b k s)=((l.filter (zjW ts c b k s)).map fun x=>(x,zj8 ts L c b k s x)).map chD
 | []=>rfl
 | x::l=>by
  rw [yav,ybn,zgv l,List.filter_cons];show (if zjW ts c b k s x then [chD (x,zj8 ts L c b k s x)] else [])++_=_
  cases zjW ts c b k s x<;>simp
theorem zh8(h:WAt S n ts gr r c b ds)(ht:TOk ts)(hk:k<gr.length)(hg:∀o∈gr,∀x,o=some x->0<=x/\x<ts.length)(hc:1<=c)(hc2:c<=100)(hs:s.length=c+2) :
  zbM [.ref n,.int k,zbk s] S=.ok (.lst ((chs ts gr c b k s).map chD)) S:=by
 have hk':gr[k]?=some (gr.getD k none):=by rw [yaf,yab hk];rfl
 have ho:=hg _ (ybb hk');have e1:=zeW h ht.le hk' ho;have m1:=h.meth "numbers_for" (by decide +kernel);have m2:=h.meth "fits" (by decide +kernel);have m3:=h.meth "seam_behind" (by decide +kernel);have hin:=zpQ ho
 have hlen:(ziV ts (gr.getD k none)).length<=100:=by
  cases gr.getD k none with
  | none=>simp only [ziV,yad,ycs];exact ht.le
  | some x=>simp [ziV]
 unfold chs;generalize ziV ts (gr.getD k none)=nums at e1 hin hlen ⊢
 have fl:((nums.map D.int).flatMap (chG ts gr.length c b k s)).length<=100:=by
  rw [zgv,yad,yad];exact yak (ya1 _ _) hlen
 obtain ⟨x',e⟩:=zeL (tg:=.one 4) (body:=zaS) (S:=S) (fun L (x:Option (Bool×D)×Option (Bool×D))=>[some (false,.ref n),some (false,.int k),some (false,zbk s),some (true,.lst L),x.1,x.2]) (chG ts gr.length c b k s) 50000 (ds:=nums.map D.int) (by
  intro d hd L x hL;obtain ⟨y,hy,rfl⟩:=yat.mp hd;obtain ⟨y0,y1⟩:=hin y hy;have et:=zgM ht y0 y1;have et':atI (ts.map zab) y=some (tl ts y):=et;have ef:=zmC (k:=k) (s:=s) (x:=y) h hc hs;have eb:=zeV (k:=k) (s:=s) (x:=y) h hc hc2 hs
  have hLs:L.length<=100000:=by omega
  refine ⟨_,(some (false,.int y),some (false,tl ts y)),rfl,?_⟩;show zaS [some (false,.ref n),some (false,.int k),some (false,zbk s),some (true,.lst L),some (false,.int y),x.2] S=.nx [some (false,.ref n),some (false,.int k),some (false,zbk s),some (true,.lst (L++(if zjW ts c b k s y then [chD (y,zj8 ts gr.length c b k s y)] else []))),some (false,.int y),some (false,tl ts y)] S
  cases hf:zjW ts c b k s y with
  | true =>
   rw [hf] at ef;simp [zaS,h.tiles,et',m2,ef,m3,eb,chD,hLs]
  | false =>
   rw [hf] at ef
   simp [zaS,h.tiles,et',m2,ef]) [] (none,none) (by simp only [ycT];omega)
 rw [zgv] at e;simp only [List.nil_append] at e;generalize ((nums.filter (zjW ts c b k s)).map fun x=>(x,zj8 ts gr.length c b k s x)).map chD=res at e ⊢;simp [zbM,zar,zcw,m1,e1,e]
end
def zi7(c x:Str)(i:Nat)(ρ:Env)(r:D):Out D->Fo
 | .bad=>.bad
 | .exc c S2=>.ex c ρ S2
 | .ok d S2=>(match zke ρ i,zgF c x d S2 with
   | some k,some (n,ob,ds)=>if (zbl k ds).isNone&&decide (ds.length<=1000000)&&zfI ob then .nx ρ (S2.set n (ob.put x true (.dic (ds++[(nkD k,r)])))) else .bad
   | _,_=>.bad)
noncomputable def zp7(c x:Str)(f:Fe)(i:Nat)(ρ:Env):Out D->Fo
 | .bad=>.bad
 | .exc c S2=>.ex c ρ S2
 | .ok r S1=>zi7 c x i ρ r (f ρ S1)
@[simp] def zt8:zjE c x f i g ρ S=zp7 c x f i ρ (g ρ S):=by
 unfold zjE zp7
 cases g ρ S with
 | ok r S1=>dsimp only;unfold zi7;cases f ρ S1<;>rfl
 | exc c S=>rfl
 | bad=>rfl
@[simp] def zxd:zp7 c x f i ρ (.ok r S)=zi7 c x i ρ r (f ρ S):=(rfl)
def zp4(hk:zke ρ i=some k)(hd:zgF c x d S=some (n,ob,ds))(h1:zbl k ds=none)(h2:ds.length<=1000000)(h3:zfI ob=true):zi7 c x i ρ r (.ok d S)=.nx ρ (S.set n (ob.put x true (.dic (ds++[(nkD k,r)])))):=by
 show (match zke ρ i,zgF c x d S with | some k,some (n,ob,ds)=>_ | _,_=>_)=_;rw [hk,hd];show (if _ then _ else _)=_;rw [if_pos];rw [h1,h3,yaB h2];rfl
def zdx(ts:Z2)(gr:Z4)(c:Nat)(b:Bool):Nat->Nat->List (Option Int)->Nat
 | 0,_,_=>1
 | m+1,k,s=>((chs ts gr c b k s).map fun p=>zdx ts gr c b m (k+1) p.2).sum
noncomputable def zeA(q:Nat):Nat->Nat
 | 0=>0
 | m+1=>1+q*zeA q m
theorem zd4:∀ds:List (D×D),zbl k (ds++[(q,d)])=(zbl k ds).or (if zi1 q=some k then some d else none)
 | []=>by show (if _ then _ else _)=_;simp [zbl]
 | (q',d')::ds=>by
  show (if zi1 q'=some k then some d' else zbl k (ds++[(q,d)]))=_;rw [zd4 ds];show _=(if zi1 q'=some k then some d' else zbl k ds).or _
  split<;>simp
noncomputable def zt4(ts:Z2)(gr:Z4)(c:Nat)(b:Bool)(ds:List (D×D)):Prop:=∀(k:Nat) s d,zbl ((k:Int),s) ds=some d->d=.int (zdx ts gr c b (gr.length-k) k s)
def zf2{S:Sto}(h:S[n]?=some ob):S.set n ob=S:=by
 obtain ⟨hn,e⟩:=yai.mp h;apply ybz;intro i
 by_cases z:n=i
 ·subst z;rw [yaH hn,h]
 ·rw [yaT z]
def zlZ(h1:1<=ts.length):(chs ts gr c b k s).length<=ts.length:=by
 unfold chs;rw [yad];refine yak (ya1 _ _) ?_
 cases gr.getD k none with
 | none=>simp [ziV]
 | some x=>simpa [ziV] using h1
theorem zl8(hc:1<=c)(hs:s.length=c+2):(zj8 ts L c b k s x).length=c+2:=by
 unfold zj8;rw [yan,yam,ycH,ybf,hs];simp only [yan,ycT];omega
def znN(hc:1<=c)(hs:s.length=c+2):∀p∈chs ts gr c b k s,p.2.length=c+2:=by
 intro p hp;obtain ⟨x,_,rfl⟩:=yat.mp hp;exact zl8 hc hs
theorem zkg{α:Type}{f:α->Nat}{m:Nat}:∀{l:List α},(∀x∈l,f x<=m)->(l.map f).sum<=l.length*m
 | [],_=>by simp
 | x::l,h=>by
  have h1:=h x yaA;have h2:=zkg (l:=l) fun y hy=>h y (yaw _ hy)
  rw [yav,ycK,yan,Nat.add_mul];omega
theorem zkj(h1:1<=ts.length):∀m k s,zdx ts gr c b m k s<=ts.length ^ m
 | 0,_,_=>by simp [zdx]
 | m+1,k,s=>by
  unfold zdx;refine yak (zkg fun p _=>zkj h1 m (k+1) p.2) ?_;rw [Nat.pow_succ,Nat.mul_comm];exact Nat.mul_le_mul_left _ (zlZ h1)
structure CfOk(n:Nat)(ts:Z2)(gr:Z4)(r c:Nat)(b:Bool)(m:Nat)(rc:List D->Sto->Out D):Prop where
 run:∀(S:Sto) (ds:List (D×D)) (k:Nat) (s:Z4),WAt S n ts gr r c b ds->zt4 ts gr c b ds->k+m=gr.length->s.length=c+2->ds.length+zeA ts.length m<=1000000 →
  ∃ds',rc [.ref n,.int k,zbk s] S=.ok (.int (zdx ts gr c b m k s)) (S.set n (wOb (.tup (ts.map zab)) (.lst (gr.map oD)) (.tup [.int r,.int c]) b ds'))/\zt4 ts gr c b ds'/\ds'.length<=ds.length+zeA ts.length m/\∀k' s',k'<k->zbl (((k':Nat):Int),s') ds'=zbl (((k':Nat):Int),s') ds
section
variable{n:Nat}{ts:Z2}{gr:Z4}{r c:Nat}{b:Bool}
theorem zjm(C:CfOk n ts gr r c b m rc)(hk:k+1+m=gr.length):∀(l:List (Int×List (Option Int))) (S:Sto) (ds:List (D×D)),(∀p∈l,p.2.length=c+2)->WAt S n ts gr r c b ds->zt4 ts gr c b ds->ds.length+l.length*zeA ts.length m<=1000000 →
  ∃ds',zbn (.one 0) zdE (zb9 "Ways" "count_from" rc (zad 1) [(zaf zcz (zak 2) (zae (.int 1))),(zaf ixD (zak 0) (zae (.int 1)))]) [none,some (false,.ref n),some (false,.int k)] (l.map chD) S
   = .ok (l.map fun p=>.int (zdx ts gr c b m (k+1) p.2)) (S.set n (wOb (.tup (ts.map zab)) (.lst (gr.map oD)) (.tup [.int r,.int c]) b ds'))/\zt4 ts gr c b ds'/\ds'.length<=ds.length+l.length*zeA ts.length m/\∀k' s',k'<k+1->zbl (((k':Nat):Int),s') ds'=zbl (((k':Nat):Int),s') ds
 | [],S,ds,_,W,M,_=>⟨ds,by rw [zf2 W.at_];rfl,M,by simp,fun _ _ _=>rfl⟩
 | p::l,S,ds,hl,W,M,hz=>by
  rw [yan,Nat.add_mul] at hz;obtain ⟨ds1,e1,M1,z1,u1⟩:=C.run S ds (k+1) p.2 W M hk (hl p yaA) (by omega);obtain ⟨ds2,e2,M2,z2,u2⟩:=zjm C hk l _ ds1 (fun q hq=>hl q (yaw _ hq)) (W.put ds1) M1 (by omega);refine ⟨ds2,?_,M2,by rw [yan,Nat.add_mul];omega,fun k' s' hk'=>(u2 k' s' hk').trans (u1 k' s' hk')⟩;rw [List.set_set] at e2;have mo:=W.meth "count_from" (by decide +kernel);have e1':rc [.ref n,.int ((k:Int)+1),zbk p.2] S=_:=e1;unfold zbn;rw [yav];dsimp only;generalize hob:wOb (.tup (ts.map zab)) (.lst (gr.map oD)) (.tup [.int r,.int c]) b ds1=ob1 at *;simp [chD,mo,e1',e2]
def zqB:CfOk n ts gr r c b 0 (zmF 4 false zai (f+1)) where
 run:=fun S ds k s W M hk hs hz=>by
  refine ⟨ds,?_,M,Nat.le_add_right _ _,fun _ _ _=>rfl⟩;rw [zf2 W.at_]
  have hk':k=gr.length:=by omega
  subst hk';show zbC 4 false (zai _) _ _=_;simp [zar,zai,W.ground,zdx]
theorem zqC(C:CfOk n ts gr r c b m (zmF 4 false zai f))(ht:TOk ts)(h1:1<=ts.length)(hg:∀o∈gr,∀x,o=some x->0<=x/\x<ts.length)(hc:1<=c)(hc2:c<=100)(hp:ts.length ^ m<=1000000):CfOk n ts gr r c b (m+1) (zmF 4 false zai (f+1)) where
 run:=fun S ds k s W M hk hs hz=>by
  have hkl:k<gr.length:=by omega
  have hne:decide ((k:Int)=(gr.length:Int))=false:=yaW (by omega);have ek:=zmw (k:=(k:Int)) (s:=s);show ∃ds',zbC 4 false (zai _) _ _=_/\_;generalize zmF 4 false zai f=rc at C
  cases hd:zbl ((k:Int),s) ds with
  | some d =>
   have hd':=M k s d hd;rw [show gr.length-k=m+1 by omega] at hd';subst hd';refine ⟨ds,?_,M,Nat.le_add_right _ _,fun _ _ _=>rfl⟩;rw [zf2 W.at_];generalize zbk s=sd at ek;generalize zdx ts gr c b (m+1) k s=cc at hd;simp [zar,zai,W.ground,W.known,hne,ek,hd,zke]
  | none =>
   have hcl:=zlZ (gr:=gr) (c:=c) (b:=b) (k:=k) (s:=s) h1;have hmul:(chs ts gr c b k s).length*zeA ts.length m<=ts.length*zeA ts.length m:=Nat.mul_le_mul_right _ hcl;have hz':ds.length+(1+ts.length*zeA ts.length m)<=1000000:=hz;have ech:=zh8 (k:=k) (s:=s) W ht hkl hg hc hc2 hs;obtain ⟨ds1,e1,M1,z1,u1⟩:=zjm C (k:=k) (by omega) (chs ts gr c b k s) S ds (znN hc hs) W M (by omega);have hd1:zbl ((k:Int),s) ds1=none:=(u1 k s (ybF k)).trans hd
   have hsum:zrj [.lst ((chs ts gr c b k s).map fun p=>D.int (zdx ts gr c b m (k+1) p.2:Nat))]=some (.int (zdx ts gr c b (m+1) k s:Nat)):=by
    have ei:∀l:List (Int×List (Option Int)),zbB (l.map fun p=>D.int (zdx ts gr c b m (k+1) p.2:Nat))=some (l.map fun p=>((zdx ts gr c b m (k+1) p.2:Nat):Int)):=by
     intro l
     induction l with
     | nil=>rfl
     | cons p l ih=>rw [yav,yav];simp [zbB,ih]
    have es:∀l:List (Int×List (Option Int)),(l.map fun p=>((zdx ts gr c b m (k+1) p.2:Nat):Int)).sum=(((l.map fun p=>zdx ts gr c b m (k+1) p.2).sum:Nat):Int):=by
     intro l
     induction l with
     | nil=>rfl
     | cons p l ih=>rw [yav,yav,ycK,ycK,ih,Int.natCast_add]
    show (zbB _).bind _=_;rw [ei];show (if _ then some (D.int _) else none)=_;rw [if_pos,es]
    ·rfl
    ·rw [yac];refine ⟨yaB (by rw [yad];exact yak hcl (yak ht.le (by decide))),?_⟩;rw [ybl];intro x hx;obtain ⟨p,_,rfl⟩:=yat.mp hx;have:=zkj (gr:=gr) (c:=c) (b:=b) h1 m (k+1) p.2;exact yaB (by omega)
   have W1:=W.put ds1;have mo:=W.meth "choices" (by decide +kernel);have hlen:(chs ts gr c b k s).length<=100000:=yak hcl (yak ht.le (by decide))
   have hnd:zfI (wOb (.tup (ts.map zab)) (.lst (gr.map oD)) (.tup [.int r,.int c]) b ds1)=true:=by
    unfold zfI;show decide ((["tiles","ground","size","is_round","known"]:List Str).Nodup)=true;decide +kernel
   have hput:(wOb (.tup (ts.map zab)) (.lst (gr.map oD)) (.tup [.int r,.int c]) b ds1).put "known" true (.dic (ds1++[(nkD ((k:Int),s),.int (zdx ts gr c b (m+1) k s:Nat))]))=wOb (.tup (ts.map zab)) (.lst (gr.map oD)) (.tup [.int r,.int c]) b (ds1++[(nkD ((k:Int),s),.int (zdx ts gr c b (m+1) k s:Nat))]):=by rfl
   refine ⟨ds1++[(nkD ((k:Int),s),.int (zdx ts gr c b (m+1) k s:Nat))],?_,?_,?_,?_⟩
   ·have W2:=W.put (ds1++[(nkD ((k:Int),s),.int (zdx ts gr c b (m+1) k s:Nat))])
    have hl2:zbl ((k:Int),s) (ds1++[(nkD ((k:Int),s),.int (zdx ts gr c b (m+1) k s:Nat))])=some (.int (zdx ts gr c b (m+1) k s:Nat)):=by
     rw [zd4,hd1,zdY,if_pos rfl];rfl
    generalize hres:(chs ts gr c b k s).map (fun p=>D.int (zdx ts gr c b m (k+1) p.2:Nat))=res at e1 hsum
    have hrl:res.length<=100000:=by rw [<-hres,yad];exact hlen
    have hkey:zke [some (false,D.ref n),some (false,.int k),some (false,zbk s),some (false,.tup [.int k,zbk s])] 3=some ((k:Int),s):=ek;have hpk:=zp4 (r:=.int (zdx ts gr c b (m+1) k s:Nat)) hkey W1.known hd1 (by omega) hnd;rw [hput,List.set_set] at hpk;have hkn:=W2.known;have hkn0:=W.known;have hgr:=W.ground;generalize wOb (.tup (ts.map zab)) (.lst (gr.map oD)) (.tup [.int r,.int c]) b (ds1++[(nkD ((k:Int),s),.int (zdx ts gr c b (m+1) k s:Nat))])=ob2 at hpk hkn ⊢;generalize wOb (.tup (ts.map zab)) (.lst (gr.map oD)) (.tup [.int r,.int c]) b ds1=ob1 at hpk e1;generalize ds1++[(nkD ((k:Int),s),D.int (zdx ts gr c b (m+1) k s:Nat))]=ds2 at hkn hl2;generalize zdx ts gr c b (m+1) k s=vv at hsum hpk hl2 ⊢;generalize zbk s=sd at ek ech hkey hpk ⊢;generalize (chs ts gr c b k s).map chD=cs at ech e1;simp [zar,zai,hgr,hkn0,hne,ek,hd,mo,ech,e1,hrl,hsum,hpk,hkey,hkn,hl2]
   ·intro k' s' d h';rw [zd4] at h'
    cases h2:zbl ((k':Int),s') ds1 with
    | some d'=>rw [h2] at h';cases h';exact M1 k' s' _ h2
    | none =>
     rw [h2,zdY] at h';have h'':(if some ((k:Int),s)=some ((k':Int),s') then some (D.int (zdx ts gr c b (m+1) k s:Nat)) else none)=some d:=h';split at h''
     ·rename_i ee;cases h'';have ee':=Option.some.inj ee
      have ek':k=k':=by have z:(k:Int)=(k':Int):=congrArg Prod.fst ee';omega
      have es':s=s':=congrArg Prod.snd ee';subst ek';subst es';rw [show gr.length-k=m+1 by omega]
     ·cases h''
   ·rw [yam,ybh];show _<=ds.length+(1+ts.length*zeA ts.length m);omega
   ·intro k' s' hk';rw [zd4,u1 k' s' (by omega),zdY,if_neg]
    ·cases zbl ((k':Int),s') ds<;>rfl
    ·intro z;have:=congrArg Prod.fst (Option.some.inj z);simp at this;omega
end
def zi9(c x:Str)(ρ:Env)(r:D):Out D->Fo
 | .bad=>.bad
 | .exc c S2=>.ex c ρ S2
 | .ok (.ref n) S2=>(match S2[n]? with
   | some ob=>if decide (ob.cls=c)&&decide (ob.fs.length<1000) then .nx ρ (S2.set n (ob.put x false r)) else .bad
   | none=>.bad)
 | .ok _ _=>.bad
noncomputable def zp9(c x:Str)(f:Fe)(ρ:Env):Out D->Fo
 | .bad=>.bad
 | .exc c S2=>.ex c ρ S2
 | .ok r S1=>zi9 c x ρ r (f ρ S1)
@[simp] def zt9:zf3 c x f g ρ S=zp9 c x f ρ (g ρ S):=by
 unfold zf3 zp9
 cases g ρ S with
 | ok r S1 =>
  dsimp only;unfold zi9
  cases f ρ S1 with
  | ok d S2=>cases d<;>rfl
  | exc c S=>rfl
  | bad=>rfl
 | exc c S=>rfl
 | bad=>rfl
@[simp] def zxn:zp9 c x f ρ (.ok r S)=zi9 c x ρ r (f ρ S):=(rfl)
def zp5(h:fs.length<1000)(hn:S.length=n):zi9 c x ρ r (.ok (.ref n) (S++[⟨c,fs⟩]))=.nx ρ (S++[⟨c,zaI x false r fs⟩]):=by
 subst hn;show (match (S++[(⟨c,fs⟩:Ob)])[S.length]? with | some ob=>_ | none=>_)=_;rw [yas (yaj _),ybw];show (if _ then Fo.nx ρ ((S++[(⟨c,fs⟩:Ob)]).set S.length _) else _)=_;rw [if_pos,List.set_append_right _ _ (yaj _),ybw]
 ·rfl
 ·rw [yac];exact ⟨yaB rfl,yaB h⟩
def zoO(hi:ρ[i]?=some (some (false,.ref n)))(h:fs.length<1000)(hn:S.length=n):zjG c x i ρ (S++[⟨c,fs⟩])=.nx ρ (S++[⟨c,zaI x true (.dic []) fs⟩]):=by
 subst hn;unfold zjG;rw [hi];show (match (S++[(⟨c,fs⟩:Ob)])[S.length]? with | some ob=>_ | none=>_)=_;rw [yas (yaj _),ybw];show (if _ then Fo.nx ρ ((S++[(⟨c,fs⟩:Ob)]).set S.length _) else _)=_;rw [if_pos,List.set_append_right _ _ (yaj _),ybw]
 ·rfl
 ·rw [yac];exact ⟨yaB rfl,yaB h⟩
theorem zcY:∀{gs:List (Str×Bool×D)},(zaI x o d gs).length<=gs.length+1
 | []=>by simp [zaI]
 | (y,z)::gs=>by
  unfold zaI;split
  ·simp
  ·have:=zcY (x:=x) (o:=o) (d:=d) (gs:=gs);simp only [yan];omega
noncomputable def zaG(r c:Nat)(g:Z1):List (Option Int):=(List.range r).flatMap fun i=>(List.range c).map fun j=>g i j
noncomputable def zyQ(g:Z1):D->D | .tup [.int i,.int j]=>oD (g i.toNat j.toNat) | _=>.non
def zfL:(zck r c).map (zyQ g)=(zaG r c g).map oD:=by
 unfold zck zaG;rw [ybH,ybH];congr 1;funext i;rw [yaO,yaO];rfl
def zbI:(zaG r c g).length=r*c:=by
 have:=congrArg List.length (zfL (r:=r) (c:=c) (g:=g));rw [yad,yad,zdJ] at this;exact this.symm
theorem zmz(h1:1<=r)(hr:r<=100)(hc:c<=100) :
  zaZ [.ref S.length,T,flr r c g,.bl b] (S++[⟨"Ways",[]⟩])=.ok .non (S++[wOb T (.lst ((zaG r c g).map oD)) (.tup [.int r,.int c]) b []]):=by
 have e1:∀S',zaX [flr r c g] S'=.ok (.lst (zck r c)) S':=fun S'=>zdk h1 hr hc
 have e2:∀S',zbN [flr r c g] S'=.ok (.tup [.int r,.int c]) S':=fun S'=>zf4 h1
 have e3:∀S',zbn (.one 0) zdE (eFn zaC [(zad 1),(zad 0)]) [none,some (false,flr r c g)] (zck r c) S'=.ok ((zaG r c g).map oD) S':=fun S'=>by
  rw [<-zfL];refine zaM fun d hd=>?_
  obtain ⟨i,j,hi,hj,rfl⟩:=zcZ hd;refine ⟨_,rfl,?_⟩;have:=zdl (g:=g) (S:=S') hi hj;simp [this];rfl
 have hl:((zaG r c g).map oD).length<=100000:=by
  rw [yad,zbI];exact yak (ybo hr hc) (by decide)
 generalize (zaG r c g).map oD=gl at e3 hl;generalize flr r c g=fl at *;have l1:=zcY (x:="tiles") (o:=false) (d:=T) (gs:=[]);have l2:=zcY (x:="ground") (o:=false) (d:=.lst gl) (gs:=zaI "tiles" false T []);have l3:=zcY (x:="size") (o:=false) (d:=.tup [.int r,.int c]) (gs:=zaI "ground" false (.lst gl) (zaI "tiles" false T []));have l4:=zcY (x:="is_round") (o:=false) (d:=.bl b) (gs:=zaI "size" false (.tup [.int r,.int c]) (zaI "ground" false (.lst gl) (zaI "tiles" false T [])));have p1:=fun (x:Str) (ρ:Env) (d:D) (fs:List (Str×Bool×D)) (h:fs.length<1000)=>zp5 (c:="Ways") (x:=x) (ρ:=ρ) (S:=S) (r:=d) (fs:=fs) h rfl
 have l0:([]:List (Str×Bool×D)).length=0:=rfl;have p2:=zoO (c:="Ways") (x:="known") (i:=0) (ρ:=[some (false,.ref S.length),some (false,T),some (false,fl),some (false,.bl b)]) (S:=S) (n:=S.length) (fs:=zaI "is_round" false (.bl b) (zaI "size" false (.tup [.int r,.int c]) (zaI "ground" false (.lst gl) (zaI "tiles" false T [])))) rfl (by omega) rfl;have q1:=p1 "tiles" [some (false,.ref S.length),some (false,T),some (false,fl),some (false,.bl b)] T [] (by omega);have q2:=p1 "ground" [some (false,.ref S.length),some (false,T),some (false,fl),some (false,.bl b)] (.lst gl) (zaI "tiles" false T []) (by omega);have q3:=p1 "size" [some (false,.ref S.length),some (false,T),some (false,fl),some (false,.bl b)] (.tup [.int r,.int c]) (zaI "ground" false (.lst gl) (zaI "tiles" false T [])) (by omega);have q4:=p1 "is_round" [some (false,.ref S.length),some (false,T),some (false,fl),some (false,.bl b)] (.bl b) (zaI "size" false (.tup [.int r,.int c]) (zaI "ground" false (.lst gl) (zaI "tiles" false T []))) (by omega);clear l1 l2 l3 l4 l0
 have fin:(⟨"Ways",zaI "known" true (.dic []) (zaI "is_round" false (.bl b) (zaI "size" false (.tup [.int r,.int c]) (zaI "ground" false (.lst gl) (zaI "tiles" false T []))))⟩:Ob)=wOb T (.lst gl) (.tup [.int r,.int c]) b []:=by rfl
 rw [fin] at p2;generalize zaI "is_round" false (.bl b) (zaI "size" false (.tup [.int r,.int c]) (zaI "ground" false (.lst gl) (zaI "tiles" false T [])))=f4 at *;generalize zaI "size" false (.tup [.int r,.int c]) (zaI "ground" false (.lst gl) (zaI "tiles" false T []))=f3 at *;generalize zaI "ground" false (.lst gl) (zaI "tiles" false T [])=f2 at *;generalize zaI "tiles" false T []=f1 at *;generalize wOb T (.lst gl) (.tup [.int r,.int c]) b []=ob at *;simp [zaZ,zar,zb8,e1,e2,e3,hl,q1,q2,q3,q4,p2]
theorem zoI{n:Nat}{ts:Z2}{gr:Z4}{r c:Nat}{b:Bool}(ht:TOk ts)(h1:1<=ts.length)(hg:∀o∈gr,∀x,o=some x->0<=x/\x<ts.length)(hc:1<=c)(hc2:c<=100):∀m f,m+1<=f->ts.length ^ m<=1000000->CfOk n ts gr r c b m (zmF 4 false zai f)
 | 0,f+1,_,_=>zqB
 | m+1,f+1,hf,hp=>by
  have hp':ts.length ^ m<=1000000:=yak (Nat.pow_le_pow_right h1 (ybR m)) hp;exact zqC (zoI ht h1 hg hc hc2 m f (by omega) hp') ht h1 hg hc hc2 hp'
theorem zf7(W:WAt S n ts gr r c b [])(ht:TOk ts)(h1:1<=ts.length)(hg:∀o∈gr,∀x,o=some x->0<=x/\x<ts.length)(hc:1<=c)(hc2:c<=100)(hm:gr.length<=30)(hp:ts.length ^ gr.length<=1000000)(hq:zeA ts.length gr.length<=1000000) :
  ∃ds',zbj [.ref n] S=.ok (.int (zdx ts gr c b gr.length 0 (List.replicate (c+2) none))) (S.set n (wOb (.tup (ts.map zab)) (.lst (gr.map oD)) (.tup [.int r,.int c]) b ds')):=by
 obtain ⟨ds',e,_⟩:=(zoI (n:=n) (r:=r) (b:=b) ht h1 hg hc hc2 gr.length 40 (by omega) hp).run S [] 0 (List.replicate (c+2) none) W (fun k s d h=>by cases h) (by omega) (yaG ..) (by simpa using hq);refine ⟨ds',?_⟩;have e':zbG [.ref n,.int 0,zbk (List.replicate (c+2) none)] S=_:=e;have e2:=zfu W hc2;have m1:=W.meth "count_from" (by decide +kernel);have m2:=W.meth "first_seam" (by decide +kernel);generalize wOb (.tup (ts.map zab)) (.lst (gr.map oD)) (.tup [.int r,.int c]) b ds'=ob at *;simp [zbj,zar,zbS,m1,m2,e2,e']
def zhQ(ts:Z2)(r c:Nat)(g:Z1)(b:Bool):Nat:=zdx ts (zaG r c g) c b (r*c) 0 (List.replicate (c+2) none)
theorem zcW(ht:TOk ts)(h1:1<=ts.length)(hg:InT ts g)(hr1:1<=r)(hr:r<=100)(hc:1<=c)(hc2:c<=100)(hm:r*c<=30)(hp:ts.length ^ (r*c)<=1000000)(hq:zeA ts.length (r*c)<=1000000) :
  ∃S',zbv [.tup (ts.map zab),flr r c g] S=.ok (.int (zhQ ts r c g false)) S':=by
 have e1:=zmz (T:=.tup (ts.map zab)) (b:=false) (S:=S) (g:=g) (c:=c) hr1 hr hc2;have W:WAt (S++[wOb (.tup (ts.map zab)) (.lst ((zaG r c g).map oD)) (.tup [.int r,.int c]) false []]) S.length ts (zaG r c g) r c false []:=⟨by rw [yas (yaj _),ybw];rfl⟩
 have hgl:∀o∈zaG r c g,∀x,o=some x->0<=x/\x<ts.length:=by
  intro o ho x hx;obtain ⟨i,_,ho⟩:=ybm.mp ho;obtain ⟨j,_,rfl⟩:=yat.mp ho;exact hg i j x hx
 obtain ⟨ds',e2⟩:=zf7 W ht h1 hgl hc hc2 (by rw [zbI];exact hm) (by rw [zbI];exact hp) (by rw [zbI];exact hq);rw [zbI] at e2;have m:=W.meth "count_all" (by decide +kernel);obtain ⟨S',hS⟩:∃S',(S++[wOb (.tup (ts.map zab)) (.lst ((zaG r c g).map oD)) (.tup [.int r,.int c]) false []]).set S.length (wOb (.tup (ts.map zab)) (.lst ((zaG r c g).map oD)) (.tup [.int r,.int c]) false ds')=S':=⟨_,rfl⟩;rw [hS] at e2;clear hS;refine ⟨S',?_⟩;unfold zhQ;generalize wOb (.tup (ts.map zab)) (.lst ((zaG r c g).map oD)) (.tup [.int r,.int c]) false []=ob at *;simp [zbv,zar,zcM,e1,m,e2]
noncomputable def zdA(ts:Z2):List Int:=(List.range ts.length).map fun (i:Nat)=>(i:Int)
def zhg(ts:Z2)(c:Nat)(o:Option Int)(t:List Int):List (List Int):=((zdA ts).filter fun x=>okO o x&&zkf ts c t x).map fun x=>t++[x]
def zdD(ts:Z2)(gr:Z4)(c:Nat):Nat->List (List Int)
 | 0=>[[]]
 | k+1=>(zdD ts gr c k).flatMap (zhg ts c (gr.getD k none))
structure FillG(ts:Z2)(k:Nat)(F:Z2):Prop where
 mem:∀t∈F,t.length=k/\InR ts t
theorem zhs:∀k,FillG ts k (zdD ts gr c k)
 | 0=>⟨fun t ht=>by rw [yaF.mp ht];exact ⟨rfl,fun x hx=>(ya4 hx).elim⟩⟩
 | k+1=>⟨fun t ht=>by
  obtain ⟨u,hu,ht⟩:=ybm.mp ht;obtain ⟨x,hx,rfl⟩:=yat.mp ht;obtain ⟨h1,h2⟩:=(zhs (ts:=ts) (gr:=gr) (c:=c) k).mem u hu;refine ⟨by rw [yam,h1];rfl,fun y hy=>?_⟩
  rcases ya3.mp hy with hy | hy
  ·exact h2 y hy
  ·rw [yaF.mp hy];obtain ⟨i,hi,rfl⟩:=yat.mp (ybM.mp hx).1;have:=ybc.mp hi
   omega⟩
def zvT:(zcd r c g).flatMap zyw=(zaG r c g).map oD:=by
 unfold zcd zaG;rw [List.flatMap_map,ybH];congr 1;funext i;show zcb c (g i)=_;rw [yaO];rfl
def zjg(ts:Z2)(gr:Z4)(c:Nat):Nat->List Int->Nat
 | 0,_=>1
 | m+1,t=>((zhg ts c (gr.getD t.length none) t).map (zjg ts gr c m)).sum
theorem ziD{α:Type}{f:α->Nat}{h:α->List α}:∀l:List α,((l.flatMap h).map f).sum=(l.map fun t=>((h t).map f).sum).sum
 | []=>rfl
 | t::l=>by rw [ybn,ybC,List.sum_append,ziD l,yav,ycK]
theorem zhr:∀m k,(zdD ts gr c (k+m)).length=((zdD ts gr c k).map (zjg ts gr c m)).sum
 | 0,k=>by
  show (zdD ts gr c k).length=_;generalize zdD ts gr c k=F
  induction F with
  | nil=>rfl
  | cons t F ih=>rw [yan,ih,yav,ycK];simp [zjg];omega
 | m+1,k=>by
  rw [show k+(m+1)=(k+1)+m by omega,zhr m (k+1)];show (((zdD ts gr c k).flatMap _).map _).sum=_;rw [ziD];congr 1;apply yb9;intro t ht;show _=((zhg ts c (gr.getD t.length none) t).map (zjg ts gr c m)).sum;rw [((zhs k).mem t ht).1]
def zfh:(zdD ts gr c L).length=zjg ts gr c L []:=by
 have:=zhr (ts:=ts) (gr:=gr) (c:=c) L 0;rw [Nat.zero_add] at this;rw [this];simp [zdD]
structure SeamOk(ts:Z2)(L c:Nat)(t:List Int)(s:Z4):Prop where
 len:s.length=c+2
 west:s.getD 0 none=if t.length % c=0 then none else some (zbe ts (t.getLastD 0) 1)
 north:∀j,j<c->s.getD (1+j) none=if t.length+j<c\/L<=t.length+j then none else some (zbe ts (t.getD (t.length+j-c) 0) 2)
def SeamOk.first:SeamOk ts L c [] (List.replicate (c+2) none) where
 len:=yaG ..
 west:=by simp [yaf,ya9]
 north:=fun j hj=>by
  rw [if_pos (.inl (by simpa using hj))];rw [yaf,ya9]
  split<;>rfl
theorem SeamOk.next(h:SeamOk ts L c t s)(hc:1<=c):SeamOk ts L c (t++[x]) (zj8 ts L c false t.length s x) where
 len:=zl8 hc h.len
 west:=by
  rw [yam,ybh];show (if (t.length+1) % c=0 then none else some (zbe ts x 1))=_;simp [ybK]
 north:=fun j hj=>by
  have hm:((s.drop 2).dropLast).length=c-1:=by rw [ycH,ybf,h.len];omega
  rw [yam,ybh];show ((if (t.length+1) % c=0 then none else some (zbe ts x 1))::((s.drop 2).dropLast++[if L<=t.length+c then none else some (zbe ts x 2),if false&&!decide ((t.length+1) % c=0) then crO ts c t.length s x else none])).getD (1+j) none=_;rw [show 1+j=j+1 by omega,List.getD_cons_succ]
  by_cases hl:j<c-1
  ·rw [yaf,yay (by rw [hm];exact hl),List.getElem?_dropLast,if_pos (by rw [ybf,h.len];omega),ybj,<-yaf];have hn:=h.north (j+1) (by omega);rw [show 2+j=1+(j+1) by omega,hn];rw [show t.length+1+j=t.length+(j+1) by omega]
   by_cases z:t.length+(j+1)<c\/L<=t.length+(j+1)
   ·rw [if_pos z,if_pos z]
   ·rw [if_neg z,if_neg z,zjc,if_pos (by omega)]
  ·have hj':j=c-1:=by omega
   subst hj';rw [yaf,yas (by rw [hm];exact yaj _),hm,ybw];show (if L<=t.length+c then none else some (zbe ts x 2))=_
   have e:(t++[x]).getD (t.length+1+(c-1)-c) 0=x:=by
    rw [zjc,show t.length+1+(c-1)-c=t.length by omega,if_neg (ya5 _),if_pos rfl]
   rw [e,show t.length+1+(c-1)=t.length+c by omega]
   have:¬ t.length+c<c:=by omega
   simp [this]
theorem znC(h:SeamOk ts L c t s)(hc:1<=c)(hL:t.length<L):zjW ts c false t.length s x=zkf ts c t x:=by
 unfold zjW zkf;have h1:=h.north 0 (by omega);rw [Nat.add_zero,Nat.add_zero] at h1;rw [h.west,h1]
 have hL':¬ L<=t.length:=by omega
 simp only [Bool.not_false,Bool.true_or,Bool.and_true];rw [ycg,yac,decide_eq_true_iff]
 have a:okO (if t.length % c=0 then none else some (zbe ts (t.getLastD 0) 1)) (zbe ts x 3)=true↔(0<t.length % c->zbe ts (t.getLastD 0) 1=zbe ts x 3):=by
  by_cases z:t.length % c=0
  ·rw [if_pos z];simp [okO,z]
  ·rw [if_neg z]
   have z':0<t.length % c:=by omega
   simp [okO,z']
 have b:okO (if t.length<c\/L<=t.length then none else some (zbe ts (t.getD (t.length-c) 0) 2)) (zbe ts x 0)=true↔(c<=t.length->zbe ts (t.getD (t.length-c) 0) 2=zbe ts x 0):=by
  by_cases z:t.length<c
  ·rw [if_pos (.inl z)]
   have z':¬ c<=t.length:=by omega
   simp [okO,z']
  ·have z':c<=t.length:=by omega
   rw [if_neg (by simp only [not_or];exact ⟨z,hL'⟩)];simp [okO,z']
 rw [a,b]
theorem zjM(ho:∀x,o=some x->0<=x/\x<ts.length):(zdA ts).filter (fun x=>okO o x&&p x)=(ziV ts o).filter p:=by
 cases o with
 | none =>
  show (zdA ts).filter (fun x=>true&&p x)=(zdA ts).filter p;simp
 | some y =>
  obtain ⟨y0,y1⟩:=ho y rfl
  have e:(zdA ts).filter (fun x=>decide (y=x))=[y]:=by
   obtain ⟨n,rfl⟩:=ybu y0
   have hn:n<ts.length:=by omega
   unfold zdA;rw [List.filter_map]
   have hf:(List.range ts.length).filter ((fun x=>decide ((n:Int)=x))∘fun (i:Nat)=>(i:Int))=[n]:=by
    have:((fun x=>decide ((n:Int)=x))∘fun (i:Nat)=>(i:Int))=fun i=>decide (i=n):=by
     funext i;simp only [Function.comp];congr 1;exact propext ⟨fun z=>by omega,fun z=>by omega⟩
    rw [this];generalize ts.length=N at hn;clear y1
    induction N with
    | zero=>omega
    | succ N ih =>
     rw [ybB,List.filter_append]
     by_cases z:n<N
     ·rw [ih z]
      have:¬ N=n:=by omega
      simp [this]
     ·have:N=n:=by omega
      subst this
      have h0:(List.range N).filter (fun i=>decide (i=N))=[]:=by
       rw [List.filter_eq_nil_iff];intro i hi;have:=ybc.mp hi;simp;omega
      rw [h0];simp
   rw [hf];rfl
  show (zdA ts).filter (fun x=>decide (y=x)&&p x)=[y].filter p;rw [<-e,List.filter_filter];congr 1;funext x;exact Bool.and_comm _ _
theorem ziw(hc:1<=c)(hg:∀o∈gr,∀x,o=some x->0<=x/\x<ts.length):∀m t s,SeamOk ts gr.length c t s->t.length+m=gr.length->zdx ts gr c false m t.length s=zjg ts gr c m t
 | 0,_,_,_,_=>rfl
 | m+1,t,s,h,hl=>by
  have hk:t.length<gr.length:=by omega
  have ho:∀x,gr.getD t.length none=some x->0<=x/\x<ts.length:=by
   rw [yaf,yab hk];exact hg _ (yaQ hk)
  show ((chs ts gr c false t.length s).map fun p=>zdx ts gr c false m (t.length+1) p.2).sum=((zhg ts c (gr.getD t.length none) t).map (zjg ts gr c m)).sum;unfold chs zhg;rw [zjM ho,yaO,yaO]
  have e:(ziV ts (gr.getD t.length none)).filter (zjW ts c false t.length s)=(ziV ts (gr.getD t.length none)).filter (zkf ts c t):=by
   congr 1;funext x;exact znC h hc hk
  rw [e];congr 1;apply yb9;intro x _;show zdx ts gr c false m (t.length+1) (zj8 ts gr.length c false t.length s x)=zjg ts gr c m (t++[x]);have:=ziw hc hg m (t++[x]) _ (h.next (x:=x) hc) (by rw [yam,ybh];omega);rwa [yam,ybh] at this
def zhp(hg:InT ts g):∀o∈zaG r c g,∀x,o=some x->0<=x/\x<ts.length:=by
 intro o ho x hx;obtain ⟨i,_,ho⟩:=ybm.mp ho;obtain ⟨j,_,rfl⟩:=yat.mp ho;exact hg i j x hx
def zfA(hc:1<=c)(hg:InT ts g):zhQ ts r c g false=(zdD ts (zaG r c g) c (r*c)).length:=by
 rw [zfh];unfold zhQ;exact ziw hc (zhp hg) (r*c) [] _ (by rw [zbI];exact SeamOk.first) (by rw [zbI];simp)
theorem zhq{tg:Tg}{body:Fs}{S:Sto}{α:Type}(emb:α->D){I:List α->Env->Prop}(L:List α)(step:∀q a r ρ,q++a::r=L->I q ρ->∃ρ1 ρ2,tg.put ρ (emb a)=some ρ1/\body ρ1 S=.nx ρ2 S/\I (q++[a]) ρ2):∀(xs pre:List α) (ρ:Env),pre++xs=L->I pre ρ->∃ρ',zfx tg body (xs.map emb) ρ S=.nx ρ' S/\I L ρ'
 | [],pre,ρ,hL,h=>⟨ρ,by simp [zfx],by rw [<-hL,yaS];exact h⟩
 | a::xs,pre,ρ,hL,h=>by
  obtain ⟨ρ1,ρ2,e1,e2,h2⟩:=step pre a xs ρ hL h;obtain ⟨ρ',e3,h3⟩:=zhq emb L step xs (pre++[a]) ρ2 (by rw [ybP];exact hL) h2;refine ⟨ρ',?_,h3⟩;rw [yav];unfold zfx;rw [e1];dsimp only;rw [e2];exact e3
def znz{tg:Tg}{body:Fs}{S:Sto}{α:Type}(emb:α->D){I:List α->Env->Prop}(L:List α){ρ:Env}(h0:I [] ρ)(step:∀q a r ρ,q++a::r=L->I q ρ->∃ρ1 ρ2,tg.put ρ (emb a)=some ρ1/\body ρ1 S=.nx ρ2 S/\I (q++[a]) ρ2):∃ρ',zfx tg body (L.map emb) ρ S=.nx ρ' S/\I L ρ':=zhq emb L step L [] ρ rfl h0
noncomputable def zcG(ts:Z2)(ns:List Int):List Int:=ns.flatMap fun n=>ts.getD n.toNat []
structure TCol(ts:Z2):Prop where
 ok:TOk ts
 col:∀t∈ts,∀x∈t,0<=x/\x<5
def TCol.mem{ts:Z2}(h:TCol ts){n:Int}(h0:0<=n)(h1:n<ts.length):ts.getD n.toNat []∈ts:=by
 rw [yaf,yab (show n.toNat<ts.length by omega)];exact yaQ _
def TCol.at{ts:Z2}(h:TCol ts){n:Int}(h0:0<=n)(h1:n<ts.length):atI (ts.map zab) n=some (.tup ((ts.getD n.toNat []).map D.int)):=by
 rw [zcP h0,yal,yaf,yab (show n.toNat<ts.length by omega)];rfl
theorem zgt(h:TCol ts):∀{ns:List Int},(∀n∈ns,0<=n/\n<ts.length)->(zcG ts ns).length=4*ns.length
 | [],_=>rfl
 | n::ns,hn=>by
  have h4:=h.ok.four _ (h.mem (hn n (.head _)).1 (hn n (.head _)).2);have ih:=zgt h (ns:=ns) fun m hm=>hn m (.tail _ hm)
  unfold zcG at ih ⊢;rw [ybn,yam,ih,h4,yan];omega
def zqy{ts:Z2}(h:TCol ts){ns:List Int}(hn:∀n∈ns,0<=n/\n<ts.length):∀x∈zcG ts ns,0<=x/\x<5:=by
 intro x hx;obtain ⟨n,hm,hx⟩:=ybm.mp hx;exact h.col _ (h.mem (hn n hm).1 (hn n hm).2) x hx
theorem zeX(h:TCol ts)(hg:InT ts g)(h1:1<=r)(hr:r<=100)(hc:c<=100):zbO [.tup (ts.map zab),flr r c g] S=.ok (.lst (zgE (zcG ts (zbA r c g)))) S:=by
 have hn:∀n∈zbA r c g,0<=n/\n<ts.length:=fun n hn=>by obtain ⟨i,j,_,_,e⟩:=ziS.mp hn;exact hg i j n e
 have hlen:=ziT (g:=g) hr hc
 obtain ⟨ρ',e,x',rfl⟩:=znz (tg:=.one 3) (body:=zcx) (S:=S) D.int (I:=fun q ρ=>∃x,ρ=[some (false,.tup (ts.map zab)),some (false,flr r c g),some (true,.lst ((zcG ts q).map D.int)),x]) (zbA r c g) (ρ:=[some (false,.tup (ts.map zab)),some (false,flr r c g),some (true,.lst []),none]) ⟨none,rfl⟩
  (by
   rintro q n zbW ρ hq ⟨x,rfl⟩;refine ⟨_,_,rfl,?_,some (false,.int n),rfl⟩;have hnn:=hn n (hq ▸ yaJ _ (.head _));have hqn:∀m∈q,0<=m/\m<ts.length:=fun m hm=>hn m (hq ▸ ycD _ hm)
   have hl:=zgt h hqn
   have hlq:q.length<=10000:=by have:=congrArg List.length hq;rw [yam] at this;omega
   have h4:=h.ok.four _ (h.mem hnn.1 hnn.2);have e1:=zbc (ts:=ts.map zab) (o:=some n) (S:=S) (fun x hx=>by cases hx;rw [yad];exact hnn);have e2:=h.at hnn.1 hnn.2
   have ec:zcG ts (q++[n])=zcG ts q++ts.getD n.toNat []:=by unfold zcG;rw [List.flatMap_append];simp
   rw [ec,ybC];simp only [oD,Option.isSome] at e1;generalize ts.getD n.toNat []=t at *;generalize ts.map zab=td at *;generalize flr r c g=F0 at *;generalize zcG ts q=C at *
   have ex:∀ρ:Env,ρ[2]?=some (some (true,.lst (C.map D.int)))->ρ[0]?=some (some (false,.tup td))->ρ[3]?=some (some (false,.int n))->zh2 2 (zaf ixD (zak 0) (zak 3)) ρ S=.nx (ρ.set 2 (some (true,.lst (C.map D.int++t.map D.int)))) S:=by
    intro ρ h2 h0 h3;exact zte h2 (by simp [h0,h3,e2]) (by rw [yad,yad];omega)
   simp [zcx,e1,ex])
 have hc5:=zqy h hn;have e5:=zh7 (ns:=zcG ts (zbA r c g)) (S:=S) (fun x hx=>by have:=hc5 x hx;omega);have e0:=zh5 (g:=g) (S:=S) h1 hr hc
 have hll:((zbA r c g).map D.int).length<=100000:=by rw [yad];omega
 have hcl:((zcG ts (zbA r c g)).map D.int).length<=100000:=by rw [yad,zgt h hn];omega
 have htl:(zgE (zcG ts (zbA r c g))).length<=100000:=by unfold zgE;rw [yad];exact yak ST.zaF (by decide)
 generalize zgE (zcG ts (zbA r c g))=TL at *;generalize (zcG ts (zbA r c g)).map D.int=C at *;generalize (zbA r c g).map D.int=NL at *;generalize flr r c g=F0 at *;generalize ts.map zab=td at *;simp [zbO,zar,zc9,e0,e,e5,hll,hcl,htl]
variable{ts:Z2}{os:List Int}{r c:Nat}{g:Z1}{S:Sto}
def zlc(h:Ord ts.length os)(hg:InT ts g):zhO φ (newT ts os) r c (mvG os g)=zhO φ ts r c g:=by
 unfold zhO eaM soM;simp only [zlb h hg]
def zsH(h:Ord ts.length os)(hg:InT ts g):clL (newT ts os) r c (mvG os g)=clL ts r c g:=by
 have e:clG (newT ts os) r c (mvG os g)=clG ts r c g:=by
  funext d;unfold clG;simp only [zlb h hg]
 unfold clL;rw [e]
def zpU:zbA r c (mvG os g)=(zbA r c g).map (inv os):=by
 unfold zbA mvG;rw [ybH];congr 1;funext i;rw [List.map_filterMap]
def zpV(h:Ord ts.length os)(hg:InT ts g):zcG (newT ts os) (zbA r c (mvG os g))=zcG ts (zbA r c g):=by
 rw [zpU]
 have hn:∀n∈zbA r c g,0<=n/\n<ts.length:=fun n hn=>by obtain ⟨i,j,_,_,e⟩:=ziS.mp hn;exact hg i j n e
 generalize zbA r c g=ns at hn;unfold zcG
 induction ns with
 | nil=>rfl
 | cons n ns ih =>
  rw [yav,ybn,ybn,ih (fun m hm=>hn m (.tail _ hm)),zgg h (hn n (.head _))]
def zi2(h:Ord ts.length os)(t:TOk ts):TOk (newT ts os):=⟨fun x hx=>t.four x (zk9 h hx),by rw [zbR h];exact t.le⟩
def zm5(h:Ord ts.length os)(t:TCol ts):TCol (newT ts os):=⟨zi2 h t.ok,fun x hx=>t.col x (zk9 h hx)⟩
def zla:zaG r c (mvG os g)=(zaG r c g).map (Option.map (inv os)):=by
 unfold zaG mvG;rw [ybH];congr 1;funext i;rw [yaO];rfl
def zpL(h:Ord ts.length os){o:Option Int}(ho:∀x,o=some x->0<=x/\x<ts.length){x:Int}(hx:0<=x/\x<ts.length):okO (o.map (inv os)) (inv os x)=okO o x:=by
 cases o with
 | none=>rfl
 | some a =>
  show decide (inv os a=inv os x)=decide (a=x);rw [decide_eq_decide];exact ⟨fun e=>h.inv_inj (ho a rfl) hx e,fun e=>by rw [e]⟩
theorem zqn(h:Ord ts.length os)(hc:1<=c){t:List Int}(ht:∀x∈t,0<=x/\x<ts.length){x:Int}(hx:0<=x/\x<ts.length):zkf (newT ts os) c (t.map (inv os)) (inv os x)=zkf ts c t x:=by
 unfold zkf;rw [decide_eq_decide,yad]
 have e1:0<t.length % c->zbe (newT ts os) ((t.map (inv os)).getLastD 0) 1=zbe ts (t.getLastD 0) 1:=by
  intro hl
  have hne:t≠[]:=by rintro rfl;simp at hl
  have hm:(t.map (inv os)).getLastD 0=inv os (t.getLastD 0):=by
   rw [ybK,ybK,List.getLast?_map,List.getLast?_eq_some_getLast hne];rfl
  rw [hm,ze4 h (ht _ (zni hne))]
 have e2:c<=t.length->zbe (newT ts os) ((t.map (inv os)).getD (t.length-c) 0) 2=zbe ts (t.getD (t.length-c) 0) 2:=by
  intro hl
  have hk:t.length-c<t.length:=by omega
  have hm:(t.map (inv os)).getD (t.length-c) 0=inv os (t.getD (t.length-c) 0):=by
   rw [yaf,yal,yaf,yab hk];rfl
  have hi:t.getD (t.length-c) 0∈t:=by
   rw [yaf,yab hk];exact yaQ _
  rw [hm,ze4 h (ht _ hi)]
 rw [ze4 h hx,ze4 h hx];constructor
 ·rintro ⟨a,b⟩;exact ⟨fun z=>by rw [<-e1 z];exact a z,fun z=>by rw [<-e2 z];exact b z⟩
 ·rintro ⟨a,b⟩;exact ⟨fun z=>by rw [e1 z];exact a z,fun z=>by rw [e2 z];exact b z⟩
theorem zoq(h:Ord ts.length os)(hc:1<=c){gr:Z4}(hgr:∀o∈gr,∀x,o=some x->0<=x/\x<ts.length):∀(m:Nat) (t:List Int),(∀x∈t,0<=x/\x<ts.length)->zjg (newT ts os) (gr.map (Option.map (inv os))) c m (t.map (inv os))=zjg ts gr c m t
 | 0,_,_=>rfl
 | m+1,t,ht=>by
  show ((zhg (newT ts os) c _ _).map _).sum=((zhg ts c _ _).map _).sum;unfold zhg;rw [yaO,yaO,yad]
  have en:zdA (newT ts os)=os.map (inv os):=by
   rw [zlm h];unfold zdA zft;rw [zbR h]
  have ho:∀x,gr.getD t.length none=some x->0<=x/\x<ts.length:=by
   intro x e;rw [yaf] at e
   by_cases hk:t.length<gr.length
   ·rw [yab hk] at e;exact hgr _ (yaQ hk) x e
   ·rw [ya2 (by omega)] at e;cases e
  have eo:(gr.map (Option.map (inv os))).getD t.length none=(gr.getD t.length none).map (inv os):=by
   rw [yaf,yal,yaf]
   cases gr[t.length]?<;>rfl
  rw [en,eo,List.filter_map,yaO];have hp:os.Perm (zdA ts):=h
  have e1:(os.filter ((fun x=>okO ((gr.getD t.length none).map (inv os)) x&&zkf (newT ts os) c (t.map (inv os)) x)∘inv os))=os.filter fun x=>okO (gr.getD t.length none) x&&zkf ts c t x:=by
   apply List.filter_congr;intro x hx;show (okO _ (inv os x)&&zkf _ _ _ (inv os x))=_;rw [zpL h ho (h.mem.mp hx),zqn h hc ht (h.mem.mp hx)]
  rw [e1]
  have e2:((os.filter fun x=>okO (gr.getD t.length none) x&&zkf ts c t x).map ((zjg (newT ts os) (gr.map (Option.map (inv os))) c m∘fun x=>t.map (inv os)++[x])∘inv os))=(os.filter fun x=>okO (gr.getD t.length none) x&&zkf ts c t x).map (zjg ts gr c m∘fun x=>t++[x]):=by
   apply yb9;intro x hx;have hb:=h.mem.mp (ybM.mp hx).1;show zjg _ _ c m (t.map (inv os)++[inv os x])=zjg ts gr c m (t++[x]);rw [show t.map (inv os)++[inv os x]=(t++[x]).map (inv os) by simp]
   exact zoq h hc hgr m (t++[x]) (fun y hy=>by
    rcases ya3.mp hy with z | z
    ·exact ht y z
    ·rw [yaF] at z;rw [z];exact hb)
  rw [e2];exact List.Perm.sum_nat (List.Perm.map _ (List.Perm.filter _ hp))
def zpT(h:Ord ts.length os)(hc:1<=c)(hg:InT ts g):zhQ (newT ts os) r c (mvG os g) false=zhQ ts r c g false:=by
 rw [zfA hc (zic h hg),zfA hc hg,zfh,zfh,zla];exact zoq h hc (zhp hg) _ [] (fun x hx=>by cases hx)
theorem zh6(hf:∀j x,f j=some x->0<=x/\x<T.length)(h1:1<=c)(h6:c<=6):zdo [.tup T,zea c f] S=.ok (.bl true) S:=by
 have e1:=zcg (l:=zcb c f) (a:=1) (b:=6) (S:=S)
 have hl:(zcb c f).length=c:=by simp [zcb]
 rw [hl,yaB (by omega:(1:Int)<=c/\(c:Int)<=6)] at e1
 have e2:zbn (.one 0) zdE (eFn zcC [(zad 1),(zad 0)]) [none,some (false,.tup T)] (zcb c f) S=.ok ((zcb c f).map fun _=>D.bl true) S:=by
  rw [zaM (g:=fun _=>D.bl true)];intro d hd;obtain ⟨j,_,rfl⟩:=yat.mp hd;refine ⟨_,rfl,?_⟩;have q:=znb (ts:=T) (o:=f j) (S:=S) (fun x e=>hf j x e);simp [q]
 have e3:zme [.lst ((zcb c f).map fun _=>D.bl true)]=some (.bl true):=by
  rw [all_map (p:=fun _=>true)];simp
 have hl2:(zcb c f).length<=100000:=by omega
 show zdo [.tup T,.tup (zcb c f)] S=_;generalize zcb c f=L at *;simp [zdo,zar,zgp,e1,e2,e3,hl2]
theorem zf5(hg:InT ts g)(h1:1<=r)(h6:r<=6)(c1:1<=c)(c6:c<=6):zcD [.tup (ts.map zab),flr r c g] S=.ok (.bl true) S:=by
 have e1:=zcg (l:=zcd r c g) (a:=1) (b:=6) (S:=S)
 have hl:(zcd r c g).length=r:=by simp [zcd]
 rw [hl,yaB (by omega:(1:Int)<=r/\(r:Int)<=6)] at e1
 have e2:zbn (.one 0) zdE (eFn zdo [(zad 1),(zad 0)]) [none,some (false,.tup (ts.map zab))] (zcd r c g) S=.ok ((zcd r c g).map fun _=>D.bl true) S:=by
  rw [zaM (g:=fun _=>D.bl true)];intro d hd;obtain ⟨i,_,rfl⟩:=yat.mp hd;refine ⟨_,rfl,?_⟩;have q:=zh6 (T:=ts.map zab) (c:=c) (f:=g i) (S:=S) (fun j x e=>by rw [yad];exact hg i j x e) c1 c6;simp [q]
 have e3:zme [.lst ((zcd r c g).map fun _=>D.bl true)]=some (.bl true):=by
  rw [all_map (p:=fun _=>true)];simp
 have e4:zbn (.one 0) zdE (zaf eqD (zas zcH [(zak 0)]) (zas zcH [(zaf ixD (zak 1) (zae (.int 0)))])) [none,some (false,.tup (zcd r c g))] (zcd r c g) S=.ok ((zcd r c g).map fun _=>D.bl true) S:=by
  rw [zaM (g:=fun _=>D.bl true)];intro d hd;obtain ⟨i,_,rfl⟩:=yat.mp hd;refine ⟨_,rfl,?_⟩
  have q0:atI (zcd r c g) 0=some (.tup (zcb c (g 0))):=by
   have:=zeM (r:=r) (c:=c) (i:=0) (g:=g) (by omega);rw [zcP (by omega)];exact this
  have hr0:(zcb c (g 0)).length=c:=by simp [zcb]
  have hri:(zcb c (g i)).length=c:=by simp [zcb]
  show (zaf eqD (zas zcH [(zak 0)]) (zas zcH [(zaf ixD (zak 1) (zae (.int 0)))])) [some (false,.tup (zcb c (g i))),some (false,.tup (zcd r c g))] S=_;generalize zcb c (g i)=A at *;generalize zcb c (g 0)=B at *;generalize zcd r c g=L at *;simp [q0,hr0,hri,show c<=100000 by omega]
 have hl2:(zcd r c g).length<=100000:=by omega
 show zcD [.tup (ts.map zab),.tup (zcd r c g)] S=_;generalize zcd r c g=L at *;generalize ts.map zab=T at *;simp [zcD,zar,zei,e1,e2,e3,e4,hl2]
end S2
namespace S2.L85
open PySem
open L2 hiding D
noncomputable def zfs:Fs :=
  (zaj (sFz [0] (zdG 4 3 (eFn zan [(zad 0),(zaf zcz (zae (.int 400)) (zas zcH [(zak 3)])),(zas zcH [(zak 3)])]))) sNx)
noncomputable def zfr:Fs :=
  (zaj (sFz [] (sIf (eOr (zaf neD (zaf zno (zak 9) (zae .non)) (zaf zno (zak 10) (zae .non))) (zgr (zaf zib (zak 9) (zae .non)) (zaf neD (zaf ixD (zak 1) (zak 9)) (zaf ixD (zak 5) (zak 10))))) (zaj (sFz [] (za6 (zae (.bl false)))) sNx) sNx)) sNx)
noncomputable def zgB:Fs :=
  (zaj (sFz [7,8] (zgW (.tup [9,10]) (zqt (zad 7) (zad 8)) zfr)) sNx)
noncomputable def zfW:Fs:=zaj (sFz [5,6,1,2] (za6 (zaf eqD (eFn zbO [(zad 5),(zad 6)]) (eFn zbO [(zad 1),(zad 2)])))) sNx
noncomputable def zfX:Fs:=zaj (sFz [5,1,14,4,1,14] (sIf (zaf neD (eFn zbv [(zad 5),(eFn zbE [(zad 1),(zad 14),(zad 4)])]) (eFn zbv [(zad 1),(zad 14)])) (zaj (sFz [] (za6 (zae (.bl false)))) sNx) sNx)) zfW
noncomputable def ziz:Fs:=zaj (sFz [0,1,12,13] (zbV 14 false (eFn zbp [(zad 0),(zae (.int 510)),(zad 1),(zad 12),(zad 13),(zae (.int 4))]))) zfX
noncomputable def zfY:Fs:=zaj (sFz [0] (zgX (.tup [12,13]) (eFn zcj [(zad 0),(zae (.int 500))]))) ziz
noncomputable def zfZ:Fs:=zaj (sFz [5,11,5,6,11] (sIf (eOr (zaf neD (eFn zdm [(zad 5),(zad 11)]) (zak 1)) (zaf neD (eFn zbE [(zad 5),(zad 6),(zad 11)]) (zak 2))) (zaj (sFz [] (za6 (zae (.bl false)))) sNx) sNx)) zfY
noncomputable def zhS:Fs:=zaj (sFz [4] (zbV 11 false (zas zcf [(zca 1 (.one 0) (zeC (zas zcH [(zak 1)])) zdE (zlO 1 (zak 0)) [4])]))) zfZ
noncomputable def zhT:Fs:=zaj (sFz [5,6,1,2,5,6,1,2] (sIf (eOr (zaf neD (eFn zcX [(zad 5),(zad 6)]) (eFn zcX [(zad 1),(zad 2)])) (zaf neD (eFn ze0 [(zad 5),(zad 6)]) (eFn ze0 [(zad 1),(zad 2)]))) (zaj (sFz [] (za6 (zae (.bl false)))) sNx) sNx)) zhS
noncomputable def zhU:Fs:=zaj (sFz [2,6] (zgW (.tup [7,8]) (zqt (zad 2) (zad 6)) zgB)) zhT
noncomputable def zhV:Fs:=zaj (sFz [4,1,5,6] (sIf (eOr (zaf neD (zas zjR [(zak 5)]) (zca 1 (.one 0) (zax (zad 4)) zdE (zaf ixD (zak 1) (zak 0)) [1])) (zaf zk8 (eFn zcD [(zad 5),(zad 6)]) (zae (.bl true)))) (zaj (sFz [] (za6 (zae (.bl false)))) sNx) sNx)) zhU
noncomputable def zkp:Fs:=zaj (sFz [1,4,1,2,4] (zqV 5 6 false (eFn zdm [(zad 1),(zad 4)]) false (eFn zbE [(zad 1),(zad 2),(zad 4)]))) zhV
noncomputable def zhW:Fs:=zaj (sFz [] (zbV 4 false (zas zcf [(zak 4)]))) zkp
noncomputable def zkq:Fs:=zaj (sFz [] (zgV 100000 (zaf neD (zak 3) (zfn [])) zfs)) zhW
noncomputable def zkr:Fs:=zaj (sFz [0,1] (zjF 2 3 4 (eFn zaO [(zad 0),(zae (.int 300)),(zad 1)]) (eUn lrD (zas zcH [(zak 1)])))) zkq
noncomputable def zks:Fs:=zaj (sFz [0] (zbV 1 false (eFn zci [(zad 0),(zae (.int 200)),(zae (.int 5))]))) zkr
noncomputable def zqo:Fs :=
  zks
noncomputable def zrW:List S2.D->Sto->Out S2.D:=zbC 15 false zqo
noncomputable abbrev Sl:=Option (Bool×D)
variable{ts:Z2}{os:List Int}{r c:Nat}{g:Z1}{S:Sto}{l:List Int}
variable{s0 s3 s4 s7 s8 s9 s10 s11 s12 s13 s14:Sl}
def zq8:(D.lst (zgE ns)).pl=true:=by
 show D.pls (zgE ns)=true;rw [D.pls_iff];intro d hd;unfold zgE at hd;obtain ⟨k,_,rfl⟩:=yat.mp hd;rfl
def zoR:(D.lst (zgE ns)).fit 9=true:=by
 show D.fits 8 (zgE ns)=true;rw [D.fits_iff];intro d hd;unfold zgE at hd;obtain ⟨k,_,rfl⟩:=yat.mp hd;rfl
def zq7{us:Z2}:D.pls (us.map zab)=true:=by
 rw [D.pls_iff];intro d hd;obtain ⟨k,_,rfl⟩:=yat.mp hd;exact zgb
def zn1{us:Z2}:D.fits (n+1) (us.map zab)=true:=by
 rw [D.fits_iff];intro d hd;obtain ⟨k,_,rfl⟩:=yat.mp hd;exact zeN
def zvA:(D.lst (clL ts r c g)).pl=true:=by
 show D.pls (clL ts r c g)=true;rw [D.pls_iff];intro d hd;unfold clL at hd;obtain ⟨p,hp,hd⟩:=ybm.mp hd;obtain ⟨i,j,_,_,rfl⟩:=zcZ hp;unfold clG at hd
 rcases ya3.mp hd with h | h<;>(split at h<;>first | (cases h;done) | (rw [yaF] at h;subst h;rfl))
theorem ztl:(D.lst (clL ts r c g)).fit 9=true:=by
 show D.fits 8 (clL ts r c g)=true;rw [D.fits_iff];intro d hd;unfold clL at hd;obtain ⟨p,hp,hd⟩:=ybm.mp hd;obtain ⟨i,j,_,_,rfl⟩:=zcZ hp;unfold clG at hd
 rcases ya3.mp hd with h | h<;>(split at h<;>first | (cases h;done) | (rw [yaF] at h;subst h;simp [clD,D.fit,D.fits,zlL];decide +kernel))
def zmH:∀q,q<6->∀m,m<7->zeA q m<=1000000/\q ^ m<=1000000:=by decide
def t14(o:Ord ts.length os)(t:TCol ts)(hg:InT ts g)(h1:1<=r)(hr:r<=100)(hc:c<=100) :
  zfW [s0,some (false,.tup (ts.map zab)),some (false,flr r c g),s3,s4,some (false,.tup ((newT ts os).map zab)),some (false,flr r c (mvG os g)),s7,s8,s9,s10,s11,s12,s13,s14] S=.rt (.bl true) S:=by
 have e1:=zeX (S:=S) t hg h1 hr hc;have e2:=zeX (S:=S) (zm5 o t) (zic o hg) h1 hr hc;rw [zpV o hg] at e2;have e3:=zqs (zq8 (ns:=zcG ts (zbA r c g))) zoR
 have hl:(zgE (zcG ts (zbA r c g))).length<=100000:=by unfold zgE;rw [yad];exact yak ST.zaF (by decide)
 generalize zgE (zcG ts (zbA r c g))=TL at *;generalize flr r c (mvG os g)=F1 at *;generalize flr r c g=F0 at *;generalize (newT ts os).map zab=N at *;generalize ts.map zab=T at *;simp [zfW,e1,e2,e3,hl]
theorem t13(o:Ord ts.length os)(t:TCol ts)(n1:1<=ts.length)(n5:ts.length<=5)(hg:InT ts g)(h1:1<=r)(hr:r<=100)(hc:c<=100)(hg':InT ts g')(h1':1<=r')(c1':1<=c')(hrc:r'*c'<=6)(hr':r'<=100)(hc':c'<=100) :
  ∃S',zfX [s0,some (false,.tup (ts.map zab)),some (false,flr r c g),s3,some (false,zab os),some (false,.tup ((newT ts os).map zab)),some (false,flr r c (mvG os g)),s7,s8,s9,s10,s11,s12,s13,some (false,flr r' c' g')] S=.rt (.bl true) S':=by
 have pd:=zmH ts.length (by omega) (r'*c') (by omega);have e0:=zcV (S:=S) o (by omega) hg' hr' hc';obtain ⟨S1,e1⟩:=zcW (S:=S) (zi2 o t.ok) (by rw [zbR o];exact n1) (zic o hg') h1' hr' c1' hc' (by omega) (by rw [zbR o];exact pd.2) (by rw [zbR o];exact pd.1);rw [zpT o c1' hg'] at e1;obtain ⟨S2,e2⟩:=zcW (S:=S1) t.ok n1 hg' h1' hr' c1' hc' (by omega) pd.2 pd.1;have e3:=t14 (s0:=s0) (s3:=s3) (s4:=some (false,zab os)) (s7:=s7) (s8:=s8) (s9:=s9) (s10:=s10) (s11:=s11) (s12:=s12) (s13:=s13) (s14:=some (false,flr r' c' g')) (S:=S2) o t hg h1 hr hc;refine ⟨S2,?_⟩;generalize ((zhQ ts r' c' g' false:Nat):Int)=W at *;generalize flr r' c' (mvG os g')=F3 at *;generalize flr r' c' g'=F2 at *;generalize flr r c (mvG os g)=F1 at *;generalize flr r c g=F0 at *;generalize (newT ts os).map zab=N at *;generalize ts.map zab=T at *;generalize zab os=O at *;simp [zfX,e0,e1,e2,e3]
theorem t11(o:Ord ts.length os)(t:TCol ts)(n1:1<=ts.length)(n5:ts.length<=5)(hg:InT ts g)(h1:1<=r)(hr:r<=100)(hc:c<=100) :
  ∃S',zfY [some (false,.scr l),some (false,.tup (ts.map zab)),some (false,flr r c g),s3,some (false,zab os),some (false,.tup ((newT ts os).map zab)),some (false,flr r c (mvG os g)),s7,s8,s9,s10,s11,s12,s13,s14] S=.rt (.bl true) S':=by
 obtain ⟨r',c',a1,a2,b1,b2,hrc,es⟩:=zkJ (l:=l) (at':=500) (S:=S) (by omega)
 have hp:0<((ts.map zab).length:Int)*4:=by rw [yad];omega
 have ef:=zg3 (l:=l) (at':=510) (m:=4) (ts:=ts.map zab) (r:=r') (c:=c') (S:=S) (by omega) hp (zlM (by omega) (by omega)) (by omega) (by omega) (by omega) (by omega);rw [yaI,yaI] at ef
 have hg':InT ts (zkc l 510 (ts.map zab).length 4):=fun i j x e=>by
  have:=zoo hp x e;rwa [yad] at this
 obtain ⟨S2,e2⟩:=t13 (s0:=some (false,.scr l)) (s3:=s3) (s7:=s7) (s8:=s8) (s9:=s9) (s10:=s10) (s11:=s11) (s12:=some (false,.int r')) (s13:=some (false,.int c')) (S:=S) o t n1 n5 hg h1 hr hc hg' a1 b1 hrc (by omega) (by omega);refine ⟨S2,?_⟩;generalize flr r' c' (zkc l 510 (ts.map zab).length 4)=F2 at *;generalize flr r c (mvG os g)=F1 at *;generalize flr r c g=F0 at *;generalize (newT ts os).map zab=N at *;generalize ts.map zab=T at *;generalize zab os=O at *;simp [zfY,ziz,es,ef,e2]
def t10(o:Ord ts.length os)(t:TCol ts)(n1:1<=ts.length)(n5:ts.length<=5)(hg:InT ts g)(h1:1<=r)(hr:r<=100)(hc:c<=100) :
  ∃S',zfZ [some (false,.scr l),some (false,.tup (ts.map zab)),some (false,flr r c g),s3,some (false,zab os),some (false,.tup ((newT ts os).map zab)),some (false,flr r c (mvG os g)),s7,s8,s9,s10,some (false,zab (con ts.length os)),s12,s13,s14] S=.rt (.bl true) S':=by
 have oc:Ord (newT ts os).length (con ts.length os):=by rw [zbR o];exact o.con
 have e1:=zfD (S:=S) oc (by rw [zbR o];omega);rw [zm6 o] at e1;have e2:=zcV (S:=S) oc (by rw [zbR o];omega) (zic o hg) hr hc;rw [zpW o hg] at e2;have q1:neD (.tup (ts.map zab)) (.tup (ts.map zab))=some (.bl false):=zec zq7 zn1;have q2:=zpS (r:=r) (c:=c) (g:=g);obtain ⟨S2,e3⟩:=t11 (l:=l) (s3:=s3) (s7:=s7) (s8:=s8) (s9:=s9) (s10:=s10) (s11:=some (false,zab (con ts.length os))) (s12:=s12) (s13:=s13) (s14:=s14) (S:=S) o t n1 n5 hg h1 hr hc;refine ⟨S2,?_⟩;generalize flr r c (mvG os g)=F1 at *;generalize flr r c g=F0 at *;generalize (newT ts os).map zab=N at *;generalize zab (con ts.length os)=C at *;generalize ts.map zab=T at *;generalize zab os=O at *;simp [zfZ,e1,e2,q1,q2,e3]
def zqi(o:Ord ts.length os){x:Int}(hx:0<=x/\x<ts.length)(n5:ts.length<=5):zdC (os.map D.int) (.int x)=some (.int (inv os x)):=by
 have hm:=o.mem.mpr hx;have hmem:zi5 (.int x) (os.map D.int)=true:=(zlh rfl zga).mpr (List.mem_map_of_mem hm)
 have hf:(os.map D.int).findIdx (zer · (.int x))=os.idxOf x:=by
  rw [List.findIdx_map];unfold List.idxOf
  have:((fun d=>zer d (.int x))∘D.int)=fun y=>y == x:=by
   funext y;show zer (.int y) (.int x)=(y == x);rw [zkP];rfl
  rw [this]
 unfold zdC;rw [hf,hmem,show (D.int x).fit 8=true from rfl,show D.fits 8 (os.map D.int)=true from zfg,yaB (show (os.map D.int).length<=1000000 by rw [yad,o.len];omega)];rfl
theorem t9(o:Ord ts.length os)(t:TCol ts)(n1:1<=ts.length)(n5:ts.length<=5)(hg:InT ts g)(h1:1<=r)(hr:r<=100)(hc:c<=100) :
  ∃S',zhS [some (false,.scr l),some (false,.tup (ts.map zab)),some (false,flr r c g),s3,some (false,zab os),some (false,.tup ((newT ts os).map zab)),some (false,flr r c (mvG os g)),s7,s8,s9,s10,s11,s12,s13,s14] S=.rt (.bl true) S':=by
 have e1:zbn (.one 0) zdE (zlO 1 (zak 0)) [none,some (false,zab os)] (zaD 0 (ts.length:Int)) S=.ok ((con ts.length os).map D.int) S:=by
  rw [zaM (g:=fun d=>match d with | .int x=>.int (inv os x) | _=>.non),zpr]
  ·unfold con zft;rw [yaO,yaO];rfl
  ·intro d hd;obtain ⟨k,rfl,hk⟩:=zkM hd;refine ⟨_,rfl,?_⟩;rw [zvm (l:=os.map D.int) (d:=.int k) (S1:=S) rfl rfl,zqi o ⟨by omega,hk⟩ n5];rfl
 have hcl:(con ts.length os).length=ts.length:=o.con.len;obtain ⟨S2,e3⟩:=t10 (l:=l) (s3:=s3) (s7:=s7) (s8:=s8) (s9:=s9) (s10:=s10) (s12:=s12) (s13:=s13) (s14:=s14) (S:=S) o t n1 n5 hg h1 hr hc;refine ⟨S2,?_⟩;have hT:(ts.map zab).length=ts.length:=yad ..;rw [show zab (con ts.length os)=D.tup ((con ts.length os).map D.int) from rfl] at e3
 have hcl':((con ts.length os).map D.int).length<=100000:=by rw [yad];omega
 have hrl:(zaD 0 (ts.length:Int)).length<=100000:=by rw [zjI];omega
 generalize (con ts.length os).map D.int=C at *;generalize flr r c (mvG os g)=F1 at *;generalize flr r c g=F0 at *;generalize (newT ts os).map zab=N at *;generalize ts.map zab=T at *;generalize zab os=O at *;simp [zhS,hT,e1,e3,hcl',hrl,show -1000000<=(ts.length:Int)/\(ts.length:Int)<=1000000 by omega,show ts.length<=100000 by omega]
def t8(o:Ord ts.length os)(t:TCol ts)(n1:1<=ts.length)(n5:ts.length<=5)(hg:InT ts g)(h1:1<=r)(hr:r<=100)(hc:c<=100) :
  ∃S',zhT [some (false,.scr l),some (false,.tup (ts.map zab)),some (false,flr r c g),s3,some (false,zab os),some (false,.tup ((newT ts os).map zab)),some (false,flr r c (mvG os g)),s7,s8,s9,s10,s11,s12,s13,s14] S=.rt (.bl true) S':=by
 have e1:=zeY (S:=S) t.ok hg h1 hr hc;have e2:=zeY (S:=S) (zi2 o t.ok) (zic o hg) h1 hr hc;rw [zsH o hg] at e2;have e3:=zg0 (S:=S) t.ok hg h1 hr hc;have e4:=zg0 (S:=S) (zi2 o t.ok) (zic o hg) h1 hr hc;rw [zlc o hg,zlc o hg] at e4;have q1:=zec (zvA (ts:=ts) (r:=r) (c:=c) (g:=g)) ztl;have q2:neD (.tup [.int (zhO alN ts r c g),.int (zhO unN ts r c g)]) (.tup [.int (zhO alN ts r c g),.int (zhO unN ts r c g)])=some (.bl false):=zec rfl rfl;have hl:=zlY (ts:=ts) (g:=g) hr hc;obtain ⟨S2,e5⟩:=t9 (l:=l) (s3:=s3) (s7:=s7) (s8:=s8) (s9:=s9) (s10:=s10) (s11:=s11) (s12:=s12) (s13:=s13) (s14:=s14) (S:=S) o t n1 n5 hg h1 hr hc;refine ⟨S2,?_⟩;generalize D.tup [.int (zhO alN ts r c g),.int (zhO unN ts r c g)]=A at *;generalize clL ts r c g=L at *;generalize flr r c (mvG os g)=F1 at *;generalize flr r c g=F0 at *;generalize (newT ts os).map zab=N at *;generalize ts.map zab=T at *;generalize zab os=O at *;simp [zhT,e1,e2,e3,e4,q1,q2,e5,show L.length<=100000 by omega]
def zoa(h:(zcb c f)[k]?=some d):d=oD (f k):=by
 have hk:k<c:=by
  have:=(yai.mp h).1;simpa [zcb] using this
 rw [ziJ hk] at h;exact (Option.some.inj h).symm
def zoz(h:(zcd r c f)[k]?=some d):d=zea c (f k):=by
 have hk:k<r:=by
  have:=(yai.mp h).1;simpa [zcd] using this
 rw [zeM hk] at h;exact (Option.some.inj h).symm
def zqJ{us:Z2}{x:Int}(h:0<=x/\x<us.length):atI (us.map zab) x=some (zab (us.getD x.toNat [])):=by
 rw [zcP h.1,yal,yaf,yab (show x.toNat<us.length by omega)];rfl
variable{s2 s6:Sl}
def zut(o:Ord ts.length os){y:Option Int}(hy:∀x,y=some x->0<=x/\x<ts.length) :
  zfr [s0,some (false,.tup (ts.map zab)),s2,s3,s4,some (false,.tup ((newT ts os).map zab)),s6,s7,s8,some (false,oD y),some (false,oD (y.map (inv os))),s11,s12,s13,s14] S=.nx [s0,some (false,.tup (ts.map zab)),s2,s3,s4,some (false,.tup ((newT ts os).map zab)),s6,s7,s8,some (false,oD y),some (false,oD (y.map (inv os))),s11,s12,s13,s14] S:=by
 cases y with
 | none =>
  have q1:neD (.bl true) (.bl true)=some (.bl false):=by rfl
  simp [zfr,oD,q1]
 | some x =>
  have hx:=hy x rfl
  have q0:neD (.bl false) (.bl false)=some (.bl false):=by rfl
  have e1:=zqJ hx;have e2:=zqJ (us:=newT ts os) (x:=inv os x) (by rw [zbR o];exact o.inv_in hx);rw [zgg o hx] at e2;have q1:=zec (zgb (t:=ts.getD x.toNat [])) zeN;generalize zab (ts.getD x.toNat [])=t at *;generalize (newT ts os).map zab=N at *;generalize ts.map zab=T at *;simp [zfr,oD,q0,q1,e1,e2]
def zu1(o:Ord ts.length os){f:Nat->Option Int}(hf:∀j x,f j=some x->0<=x/\x<ts.length) :
  ∃x9 x10,zgB [s0,some (false,.tup (ts.map zab)),s2,s3,s4,some (false,.tup ((newT ts os).map zab)),s6,some (false,zea c f),some (false,zea c fun j=>(f j).map (inv os)),s9,s10,s11,s12,s13,s14] S=.nx [s0,some (false,.tup (ts.map zab)),s2,s3,s4,some (false,.tup ((newT ts os).map zab)),s6,some (false,zea c f),some (false,zea c fun j=>(f j).map (inv os)),x9,x10,s11,s12,s13,s14] S:=by
 obtain ⟨ρ',e,x9,x10,rfl⟩:=zcn (tg:=.tup [9,10]) (body:=zfr) (ds:=zgG (zcb c f) (zcb c fun j=>(f j).map (inv os))) (S:=S) (ρ:=[s0,some (false,.tup (ts.map zab)),s2,s3,s4,some (false,.tup ((newT ts os).map zab)),s6,some (false,zea c f),some (false,zea c fun j=>(f j).map (inv os)),s9,s10,s11,s12,s13,s14]) (fun _ ρ=>∃x9 x10,ρ=[s0,some (false,.tup (ts.map zab)),s2,s3,s4,some (false,.tup ((newT ts os).map zab)),s6,some (false,zea c f),some (false,zea c fun j=>(f j).map (inv os)),x9,x10,s11,s12,s13,s14]) (by
  rintro k d ρ hd ⟨x9,x10,rfl⟩;obtain ⟨x,y,e1,e2,e3⟩:=zeD hd;have z1:=zoa e1;have z2:=zoa e2;subst z1;subst z2;subst e3
  exact ⟨_,_,rfl,zut (s0:=s0) (s2:=s2) (s3:=s3) (s4:=s4) (s6:=s6) (s7:=some (false,zea c f)) (s8:=some (false,zea c fun j=>(f j).map (inv os))) (s11:=s11) (s12:=s12) (s13:=s13) (s14:=s14) (S:=S) o (y:=f k) (hf k),some (false,oD (f k)),some (false,oD ((f k).map (inv os))),rfl⟩) ⟨_,_,rfl⟩
 refine ⟨x9,x10,?_⟩;unfold zea at e ⊢;generalize zcb c f=A at *;generalize (zcb c fun j=>(f j).map (inv os))=B at *;generalize (newT ts os).map zab=N at *;generalize ts.map zab=T at *;simp [zgB,e]
def t7(o:Ord ts.length os)(t:TCol ts)(n1:1<=ts.length)(n5:ts.length<=5)(hg:InT ts g)(h1:1<=r)(hr:r<=100)(hc:c<=100) :
  ∃S',zhU [some (false,.scr l),some (false,.tup (ts.map zab)),some (false,flr r c g),s3,some (false,zab os),some (false,.tup ((newT ts os).map zab)),some (false,flr r c (mvG os g)),s7,s8,s9,s10,s11,s12,s13,s14] S=.rt (.bl true) S':=by
 obtain ⟨ρ',e,x7,x8,x9,x10,rfl⟩:=zcn (tg:=.tup [7,8]) (body:=zgB) (ds:=zgG (zcd r c g) (zcd r c (mvG os g))) (S:=S) (ρ:=[some (false,.scr l),some (false,.tup (ts.map zab)),some (false,flr r c g),s3,some (false,zab os),some (false,.tup ((newT ts os).map zab)),some (false,flr r c (mvG os g)),s7,s8,s9,s10,s11,s12,s13,s14]) (fun _ ρ=>∃x7 x8 x9 x10,ρ=[some (false,.scr l),some (false,.tup (ts.map zab)),some (false,flr r c g),s3,some (false,zab os),some (false,.tup ((newT ts os).map zab)),some (false,flr r c (mvG os g)),x7,x8,x9,x10,s11,s12,s13,s14]) (by
  rintro k d ρ hd ⟨x7,x8,x9,x10,rfl⟩;obtain ⟨x,y,e1,e2,e3⟩:=zeD hd;have z1:=zoz e1;have z2:=zoz e2;subst z1;subst z2;subst e3;obtain ⟨y9,y10,e⟩:=zu1 (s0:=some (false,.scr l)) (s2:=some (false,flr r c g)) (s3:=s3) (s4:=some (false,zab os)) (s6:=some (false,flr r c (mvG os g))) (s9:=x9) (s10:=x10) (s11:=s11) (s12:=s12) (s13:=s13) (s14:=s14) (c:=c) (S:=S) o (f:=g k) (hg k)
  exact ⟨_,_,rfl,e,_,_,y9,y10,rfl⟩) ⟨_,_,_,_,rfl⟩
 obtain ⟨S2,e5⟩:=t8 (l:=l) (s3:=s3) (s7:=x7) (s8:=x8) (s9:=x9) (s10:=x10) (s11:=s11) (s12:=s12) (s13:=s13) (s14:=s14) (S:=S) o t n1 n5 hg h1 hr hc;refine ⟨S2,?_⟩;unfold flr at e e5 ⊢;generalize zcd r c (mvG os g)=F1 at *;generalize zcd r c g=F0 at *;generalize (newT ts os).map zab=N at *;generalize ts.map zab=T at *;generalize zab os=O at *;simp [zhU,e,e5]
def t6(o:Ord ts.length os)(t:TCol ts)(n1:1<=ts.length)(n5:ts.length<=5)(hg:InT ts g)(h1:1<=r)(hr:r<=6)(c1:1<=c)(hc:c<=6) :
  ∃S',zhV [some (false,.scr l),some (false,.tup (ts.map zab)),some (false,flr r c g),s3,some (false,zab os),some (false,.tup ((newT ts os).map zab)),some (false,flr r c (mvG os g)),s7,s8,s9,s10,s11,s12,s13,s14] S=.rt (.bl true) S':=by
 have e1:=zf5 (S:=S) (zic o hg) h1 hr c1 hc
 have e2:zbn (.one 0) zdE (zaf ixD (zak 1) (zak 0)) [none,some (false,.tup (ts.map zab))] (os.map D.int) S=.ok ((newT ts os).map zab) S:=by
  rw [zaM (g:=fun d=>match d with | .int o=>zab (ts.getD o.toNat []) | _=>.non)]
  ·unfold newT;rw [yaO,yaO];rfl
  ·intro d hd;obtain ⟨x,hx,rfl⟩:=yat.mp hd;have ea:=zqJ (o.mem.mp hx);exact ⟨_,rfl,by simp [ea]⟩
 have q1:neD (.lst ((newT ts os).map zab)) (.lst ((newT ts os).map zab))=some (.bl false):=zec zq7 zn1
 have hnl:((newT ts os).map zab).length<=100000:=by rw [yad,zbR o];omega
 have hol:(os.map D.int).length<=100000:=by rw [yad,o.len];omega
 obtain ⟨S2,e5⟩:=t7 (l:=l) (s3:=s3) (s7:=s7) (s8:=s8) (s9:=s9) (s10:=s10) (s11:=s11) (s12:=s12) (s13:=s13) (s14:=s14) (S:=S) o t n1 n5 hg h1 (show r<=100 by omega) (show c<=100 by omega);refine ⟨S2,?_⟩;rw [show zab os=D.tup (os.map D.int) from rfl] at *;generalize flr r c (mvG os g)=F1 at *;generalize flr r c g=F0 at *;generalize (newT ts os).map zab=N at *;generalize ts.map zab=T at *;generalize os.map D.int=O at *;simp [zhV,e1,e2,q1,e5,hnl,hol]
def t4(o:Ord ts.length os)(t:TCol ts)(n1:1<=ts.length)(n5:ts.length<=5)(hg:InT ts g)(h1:1<=r)(hr:r<=6)(c1:1<=c)(hc:c<=6) :
  ∃S',zhW [some (false,.scr l),some (false,.tup (ts.map zab)),some (false,flr r c g),s3,some (true,.lst (os.map D.int)),s5,s6,s7,s8,s9,s10,s11,s12,s13,s14] S=.rt (.bl true) S':=by
 have e1:=zfD (S:=S) o (by omega);have e2:=zcV (S:=S) o (by omega) hg (show r<=100 by omega) (show c<=100 by omega)
 have hol:(os.map D.int).length<=100000:=by rw [yad,o.len];omega
 obtain ⟨S2,e5⟩:=t6 (l:=l) (s3:=s3) (s7:=s7) (s8:=s8) (s9:=s9) (s10:=s10) (s11:=s11) (s12:=s12) (s13:=s13) (s14:=s14) (S:=S) o t n1 n5 hg h1 hr c1 hc;refine ⟨S2,?_⟩;rw [show zab os=D.tup (os.map D.int) from rfl] at *;generalize flr r c (mvG os g)=F1 at *;generalize flr r c g=F0 at *;generalize (newT ts os).map zab=N at *;generalize ts.map zab=T at *;generalize os.map D.int=O at *;simp [zhW,zkp,e1,e2,e5,hol]
theorem zfz{α:Type}{I:α->Env->Prop}{fin:α->Prop}(m:α->Nat)(step:∀a ρ,I a ρ->(cd ρ S=.ok (.bl false) S/\fin a)\/(cd ρ S=.ok (.bl true) S/\∃a' ρ',body ρ S=.nx ρ' S/\I a' ρ'/\m a'<m a)):∀(n:Nat) (a:α) (ρ:Env),I a ρ->m a<n->∃a' ρ',zcQ cd body n ρ S=.nx ρ' S/\I a' ρ'/\fin a'
 | 0,a,ρ,_,h=>absurd h (Nat.not_lt_zero _)
 | n+1,a,ρ,hI,hm=>by
  rcases step a ρ hI with ⟨e,hf⟩ | ⟨e,a',ρ',e2,hI',hlt⟩
  ·refine ⟨a,ρ,?_,hI,hf⟩;unfold zcQ;rw [e];rfl
  ·obtain ⟨a2,ρ2,e3,h3⟩:=zfz m step n a' ρ' hI' (by omega);refine ⟨a2,ρ2,?_,h3⟩;unfold zcQ;rw [e];show (match body ρ S with | .nx ρ' S'=>zcQ cd body n ρ' S' | .ct ρ' S'=>zcQ cd body n ρ' S' | .bk ρ' S'=>.nx ρ' S' | o=>o)=_;rw [e2];exact e3
def zsF:neD (.lst (ls.map D.int)) (.lst [])=some (.bl (!decide (ls=[]))):=by
 cases ls with
 | nil=>rfl
 | cons a ls =>
  have hf:D.fits 8 ((a::ls).map D.int)=true:=zfg;have h0:D.fits 8 []=true:=rfl
  have hp:zer (.lst ((a::ls).map D.int)) (.lst [])=false:=by
   have:=(zht (.lst ((a::ls).map D.int)) (.lst []) zga rfl);unfold zer;rw [<-ycC,this];simp
  unfold neD;rw [show (D.lst ((a::ls).map D.int)).fit 9=true from hf,show (D.lst []).fit 9=true from h0,hp];simp
theorem zoC:∀(k:Nat) (L:List Int),(L.eraseIdx k).map D.int=(L.map D.int).eraseIdx k
 | _,[]=>by simp
 | 0,a::L=>rfl
 | k+1,a::L=>by rw [List.eraseIdx_cons_succ,yav,yav,List.eraseIdx_cons_succ,zoC k L]
noncomputable def mk3(l:List Int)(T F:D)(L O:List Int):Env:=[some (false,.scr l),some (false,T),some (false,F),some (true,.lst (L.map D.int)),some (true,.lst (O.map D.int)),none,none,none,none,none,none,none,none,none,none]
theorem zmN(hL:L≠[])(h5:L.length<=100)(h6:O.length<=100):∃(q:Nat) (x:Int),L[q]?=some x/\zfs (mk3 l T F L O) S=.nx (mk3 l T F (L.eraseIdx q) (O++[x])) S:=by
 have hpos:0<L.length:=List.length_pos_iff.mpr hL;have pb:=zbH l (400+(L.length:Int)) (many:=(L.length:Int)) (by omega);have ep:=zbu (l:=l) (k:=400+(L.length:Int)) (many:=(L.length:Int)) (S:=S) (by omega) (by omega);generalize zbQ l (400+(L.length:Int)) (L.length:Int)=q at *;obtain ⟨q,rfl⟩:=ybu pb.1
 have hq:q<L.length:=by omega
 refine ⟨q,L[q],yab hq,?_⟩;have hlen:(L.map D.int).length=L.length:=yad ..
 have hy:(L.map D.int)[q]?=some (.int L[q]):=by rw [yal,yab hq];rfl
 have he:(L.eraseIdx q).map D.int=(L.map D.int).eraseIdx q:=zoC q L
 have ho:(O++[L[q]]).map D.int=O.map D.int++[.int L[q]]:=by simp
 unfold mk3;rw [he,ho]
 have hol:(O.map D.int).length<=100000:=by rw [yad];omega
 have hll:(L.map D.int).length<=100000:=by omega
 have hpk:∀ρ:Env,ρ[0]?=some (some (false,.scr l))->ρ[3]?=some (some (true,.lst (L.map D.int)))->(eFn zan [(zad 0),(zaf zcz (zae (.int 400)) (zas zcH [(zak 3)])),(zas zcH [(zak 3)])]) ρ S=.ok (.int q) S:=by
  intro ρ a b;generalize L.map D.int=M at *;simp [a,b,hlen,ep,show -1000000<=(L.length:Int)/\(L.length:Int)<=1000000 by omega,show L.length<=100000 by omega]
 generalize L[q]=x at *;generalize L.map D.int=M at *;generalize O.map D.int=P at *;have ap:=zty (i:=4) (j:=3) (l:=P) (m:=M) (q:=q) (y:=.int x) (S:=S) (S1:=S) (f:=eFn zan [(zad 0),(zaf zcz (zae (.int 400)) (zas zcH [(zak 3)])),(zas zcH [(zak 3)])]) (ρ:=[some (false,.scr l),some (false,T),some (false,F),some (true,.lst M),some (true,.lst P),none,none,none,none,none,none,none,none,none,none]) rfl rfl (by decide) (hpk _ rfl rfl) hy hol hll;unfold zfs;show (zaj (sFz [0] _) sNx) _ S=_;rw [show ∀(a b:Fs) ρ,zaj a b ρ S=(a ρ S).seq b from fun _ _ _=>rfl];show (zdG 4 3 _ (frz [0] _) S).seq sNx=_;rw [show frz [0] [some (false,.scr l),some (false,T),some (false,F),some (true,D.lst M),some (true,D.lst P),none,none,none,none,none,none,none,none,none,none]=[some (false,.scr l),some (false,T),some (false,F),some (true,D.lst M),some (true,D.lst P),none,none,none,none,none,none,none,none,none,none] from rfl,ap];rfl
theorem zu2(hn:n<=5):∃os,Ord n os/\zcQ (zaf neD (zak 3) (zfn [])) zfs 100000 (mk3 l T F (zft n) []) S=.nx (mk3 l T F [] os) S:=by
 obtain ⟨s,ρ',e,⟨hp,rfl⟩,hfin⟩:=zfz (cd:=zaf neD (zak 3) (zfn [])) (body:=zfs) (S:=S) (I:=fun (s:List Int×List Int) ρ=>(s.1++s.2).Perm (zft n)/\ρ=mk3 l T F s.1 s.2) (fin:=fun s=>s.1=[]) (fun s=>s.1.length) (by
  rintro ⟨L,O⟩ ρ ⟨hp,rfl⟩
  have hlen:L.length+O.length=n:=by
   have:=hp.length_eq;rwa [yam,zeK] at this
  have hcd:zaf neD (zak 3) (zfn []) (mk3 l T F L O) S=.ok (.bl (!decide (L=[]))) S:=by
   have q:=zsF (ls:=L);unfold mk3;generalize L.map D.int=M at *;generalize O.map D.int=P at *;simp [q]
  by_cases hL:L=[]
  ·left;rw [hcd,yaB hL];exact ⟨rfl,hL⟩
  ·right;rw [hcd,yaW hL];obtain ⟨q,x,hx,eb⟩:=zmN (l:=l) (S:=S) (T:=T) (F:=F) (L:=L) (O:=O) hL (by omega) (by omega);have hq:=(yai.mp hx).1;refine ⟨rfl,(L.eraseIdx q,O++[x]),_,eb,⟨?_,rfl⟩,?_⟩
   ·have hx':L[q]=x:=(yai.mp hx).2
    have p1:(x::L.eraseIdx q).Perm L:=by rw [<-hx'];exact ST.zel L q hq
    have p2:(L.eraseIdx q++(O++[x])).Perm (L++O):=by
     refine List.Perm.trans ?_ (List.Perm.append_right O p1);rw [<-ybP];exact List.perm_append_comm
    exact p2.trans hp
   ·show (L.eraseIdx q).length<L.length
    rw [List.length_eraseIdx_of_lt hq];omega) 100000 (zft n,[]) (mk3 l T F (zft n) []) ⟨by rw [yaS],rfl⟩ (by show (zft n).length<100000;rw [zeK];omega)
 obtain ⟨L,O⟩:=s;dsimp only at hfin hp e;subst hfin;exact ⟨O,hp,e⟩
theorem zng(l:List Int)(hl:l.length<=63):∃S,zrW [.scr l] []=.ok (.bl true) S:=by
 obtain ⟨ts,hT,et⟩:=zkI (l:=l) (at':=200) (most:=5) (S:=[]) (by omega) (by omega) (by omega);have n1:=hT.ne;have n5:=hT.le
 have n5':ts.length<=5:=by omega
 have t:TCol ts:=⟨⟨hT.four,by omega⟩,fun u hu x hx=>by have:=hT.col u hu x hx;omega⟩;obtain ⟨r,c,g,h1,hr,c1,hc,hg,ef⟩:=zmA (l:=l) (at':=300) (S:=[]) (by omega) hT (by omega);obtain ⟨os,o,ew⟩:=zu2 (l:=l) (S:=[]) (T:=.tup (ts.map zab)) (F:=flr r c g) n5';obtain ⟨S2,e4⟩:=t4 (l:=l) (s3:=some (true,.lst [])) (s5:=none) (s6:=none) (s7:=none) (s8:=none) (s9:=none) (s10:=none) (s11:=none) (s12:=none) (s13:=none) (s14:=none) (S:=[]) o t n1 n5' hg h1 (show r<=6 by omega) c1 (show c<=6 by omega);refine ⟨S2,?_⟩;have hT':(ts.map zab).length=ts.length:=yad ..
 have elr:lrD (.int (ts.length:Int))=some (.lst ((zft ts.length).map D.int)):=by
  show (if decide ((0:Int)<=(ts.length:Int)/\(ts.length:Int)<=1000) then _ else _)=_;rw [if_pos (yaB (by omega)),yaI];unfold zft;rw [yaO];rfl
 unfold mk3 at ew;rw [show ([]:List Int).map D.int=[] from rfl] at ew;generalize (zft ts.length).map D.int=NN at *;generalize os.map D.int=O at *;generalize flr r c g=F at *;generalize ts.map zab=T at *;simp only [zrW,zar,zqo,zks,zkr,zkq];have p3:=fun (ρ:Env) h1 h2=>zsk (ρ:=ρ) (S:=[]) (h:=2) (i:=3) (j:=4) (f1:=eFn zaO [(zad 0),(zae (.int 300)),(zad 1)]) (f2:=eUn lrD (zas zcH [(zak 1)])) (d1:=F) (d2:=.lst NN) (S1:=[]) (S2:=[]) h1 h2
 simp [et,ef,hT',elr,p3,zgV,ew,e4,show ts.length<=100000 by omega]
end S2.L85
namespace M85
open PySem L2 S2 S2.L85
noncomputable def top(i:Nat):Stmt:=PySem.Challenge.pw_floorfits_k85_whole_orders.main.body.getD i (.Pass ⟨0,0,0,0⟩)
def T:Tab:=⟨[("MOST_SIDE",.int 6),("NORTH",.int 0),("EAST",.int 1),("SOUTH",.int 2),("WEST",.int 3)],["isinstance","int","bool","tuple","list","len","range","all","sum","enumerate","zip","sorted","set","ValueError"],["FloorError","NoTile"],[("NoTile","FloorError")],[],[("Ways","tiles"),("Ways","ground"),("Ways","size"),("Ways","is_round"),("Ways","known")],["known"],["numbers"]⟩
noncomputable def F0:Fn3:=⟨"",[],[],[]⟩
noncomputable def F1:Fn3:=F0.fn "is_whole" ⟨1,false,zaU⟩
def d1:zam (Gn T F0) false ["thing"] (top 10)=some zdt:=by rfl
theorem s1:FnScope ["thing"] ["thing"] (zac (top 10)):=⟨rfl,rfl,rfl,by decide +kernel,rfl,by decide +kernel,by decide +kernel⟩
noncomputable def F2:Fn3:=F1.fn "is_tuple_of" ⟨3,false,zat⟩
def d2:zam (Gn T F1) false ["thing","least","most"] (top 11)=some zbY:=by rfl
theorem s2:FnScope ["thing","least","most"] ["thing","least","most"] (zac (top 11)):=⟨rfl,rfl,rfl,by decide +kernel,rfl,by decide +kernel,by decide +kernel⟩
noncomputable def F3:Fn3:=F2.fn "has_number" ⟨2,false,zaz⟩
def d3:zam (Gn T F2) false ["tiles","thing"] (top 12)=some zcp:=by rfl
theorem s3:FnScope ["tiles","thing"] ["tiles","thing"] (zac (top 12)):=⟨rfl,rfl,rfl,by decide +kernel,rfl,by decide +kernel,by decide +kernel⟩
noncomputable def F4:Fn3:=F3.fn "may_lie" ⟨2,false,zcC⟩
def d4:zam (Gn T F3) false ["tiles","thing"] (top 13)=some zd1:=by rfl
theorem s4:FnScope ["tiles","thing"] ["tiles","thing"] (zac (top 13)):=⟨rfl,rfl,rfl,by decide +kernel,rfl,by decide +kernel,by decide +kernel⟩
noncomputable def F5:Fn3:=F4.fn "is_row" ⟨2,false,zdo⟩
def d5:zam (Gn T F4) false ["tiles","thing"] (top 14)=some zgp:=by rfl
theorem s5:FnScope ["tiles","thing"] ["tiles","thing"] (zac (top 14)):=⟨rfl,rfl,rfl,by decide +kernel,rfl,by decide +kernel,by decide +kernel⟩
noncomputable def F6:Fn3:=F5.fn "is_floor" ⟨2,false,zcD⟩
def d6:zam (Gn T F5) false ["tiles","thing"] (top 15)=some zei:=by rfl
theorem s6:FnScope ["tiles","thing"] ["tiles","thing"] (zac (top 15)):=⟨rfl,rfl,rfl,by decide +kernel,rfl,by decide +kernel,by decide +kernel⟩
noncomputable def F7:Fn3:=F6.fn "size_of" ⟨1,false,zbN⟩
def d7:zam (Gn T F6) false ["floor","columns"] (top 16)=some zfj:=by rfl
theorem s7:FnScope ["floor","columns"] ["floor"] (zac (top 16)):=⟨rfl,rfl,rfl,by decide +kernel,rfl,by decide +kernel,by decide +kernel⟩
noncomputable def F8:Fn3:=F7.fn "places_of" ⟨1,true,zaX⟩
def d8:zam (Gn T F7) true ["floor","size","places","row","column"] (top 17)=some zdL:=by rfl
theorem s8:FnScope ["floor","size","places","row","column"] ["floor"] (zac (top 17)):=⟨rfl,rfl,rfl,by decide +kernel,rfl,by decide +kernel,by decide +kernel⟩
noncomputable def F9:Fn3:=F8.fn "number_at" ⟨2,false,zaC⟩
def d9:zam (Gn T F8) false ["floor","place"] (top 18)=some zdM:=by rfl
theorem s9:FnScope ["floor","place"] ["floor","place"] (zac (top 18)):=⟨rfl,rfl,rfl,by decide +kernel,rfl,by decide +kernel,by decide +kernel⟩
noncomputable def F10:Fn3:=F9.fn "laid_places" ⟨1,true,zbX⟩
def d10:zam (Gn T F9) true ["floor"] (top 19)=some zcL:=by rfl
theorem s10:FnScope ["floor"] ["floor"] (zac (top 19)):=⟨rfl,rfl,rfl,by decide +kernel,rfl,by decide +kernel,by decide +kernel⟩
noncomputable def F11:Fn3:=F10.fn "numbers_on" ⟨1,true,zch⟩
def d11:zam (Gn T F10) true ["floor"] (top 20)=some zc7:=by rfl
theorem s11:FnScope ["floor"] ["floor"] (zac (top 20)):=⟨rfl,rfl,rfl,by decide +kernel,rfl,by decide +kernel,by decide +kernel⟩
noncomputable def F12:Fn3:=F11.fn "has_place" ⟨2,false,zbD⟩
def d12:zam (Gn T F11) false ["floor","place","size"] (top 21)=some zdN:=by rfl
theorem s12:FnScope ["floor","place","size"] ["floor","place"] (zac (top 21)):=⟨rfl,rfl,rfl,by decide +kernel,rfl,by decide +kernel,by decide +kernel⟩
noncomputable def F13:Fn3:=F12.fn "edge_at" ⟨4,false,zaJ⟩
def d13:zam (Gn T F12) false ["tiles","floor","place","side"] (top 22)=some zc8:=by rfl
theorem s13:FnScope ["tiles","floor","place","side"] ["tiles","floor","place","side"] (zac (top 22)):=⟨rfl,rfl,rfl,by decide +kernel,rfl,by decide +kernel,by decide +kernel⟩
noncomputable def F14:Fn3:=F13.fn "colours_east" ⟨3,false,zbd⟩
def d14:zam (Gn T F13) false ["tiles","floor","place","beside"] (top 23)=some zcv:=by rfl
theorem s14:FnScope ["tiles","floor","place","beside"] ["tiles","floor","place"] (zac (top 23)):=⟨rfl,rfl,rfl,by decide +kernel,rfl,by decide +kernel,by decide +kernel⟩
noncomputable def F15:Fn3:=F14.fn "colours_south" ⟨3,false,zaY⟩
def d15:zam (Gn T F14) false ["tiles","floor","place","below"] (top 24)=some zb4:=by rfl
theorem s15:FnScope ["tiles","floor","place","below"] ["tiles","floor","place"] (zac (top 24)):=⟨rfl,rfl,rfl,by decide +kernel,rfl,by decide +kernel,by decide +kernel⟩
noncomputable def F16:Fn3:=F15.fn "do_clash" ⟨1,false,zcE⟩
def d16:zam (Gn T F15) false ["colours"] (top 25)=some zek:=by rfl
theorem s16:FnScope ["colours"] ["colours"] (zac (top 25)):=⟨rfl,rfl,rfl,by decide +kernel,rfl,by decide +kernel,by decide +kernel⟩
noncomputable def F17:Fn3:=F16.fn "clashes" ⟨2,true,zcX⟩
def d17:zam (Gn T F16) true ["tiles","floor","found","place"] (top 26)=some zfl:=by rfl
theorem s17:FnScope ["tiles","floor","found","place"] ["tiles","floor"] (zac (top 26)):=⟨rfl,rfl,rfl,by decide +kernel,rfl,by decide +kernel,by decide +kernel⟩
noncomputable def F18:Fn3:=F17.fn "is_order" ⟨2,false,zb1⟩
def d18:zam (Gn T F17) false ["tiles","thing"] (top 28)=some zeh:=by rfl
theorem s18:FnScope ["tiles","thing"] ["tiles","thing"] (zac (top 28)):=⟨rfl,rfl,rfl,by decide +kernel,rfl,by decide +kernel,by decide +kernel⟩
noncomputable def F19:Fn3:=F18.fn "refuse_no_order" ⟨2,false,zaq⟩
def d19:zam (Gn T F18) false ["tiles","order"] (top 29)=some zbJ:=by rfl
theorem s19:FnScope ["tiles","order"] ["tiles","order"] (zac (top 29)):=⟨rfl,rfl,rfl,by decide +kernel,rfl,by decide +kernel,by decide +kernel⟩
noncomputable def F20:Fn3:=F19.fn "set_by" ⟨2,false,zdm⟩
def d20:zam (Gn T F19) false ["tiles","order"] (top 30)=some zgn:=by rfl
theorem s20:FnScope ["tiles","order"] ["tiles","order"] (zac (top 30)):=⟨rfl,rfl,rfl,by decide +kernel,rfl,by decide +kernel,by decide +kernel⟩
noncomputable def F21:Fn3:=F20.fn "row_by" ⟨2,false,zdV⟩
def d21:zam (Gn T F20) false ["row","numbers"] (top 31)=some zgo:=by rfl
theorem s21:FnScope ["row","numbers"] ["row","numbers"] (zac (top 31)):=⟨rfl,rfl,rfl,by decide +kernel,rfl,by decide +kernel,by decide +kernel⟩
noncomputable def F22:Fn3:=F21.fn "floor_by" ⟨3,false,zbE⟩
def d22:zam (Gn T F21) false ["tiles","floor","order","numbers","new","old"] (top 32)=some zej:=by rfl
theorem s22:FnScope ["tiles","floor","order","numbers","new","old"] ["tiles","floor","order"] (zac (top 32)):=⟨rfl,rfl,rfl,by decide +kernel,rfl,by decide +kernel,by decide +kernel⟩
noncomputable def F23:Fn3:=F22.fn "suits" ⟨2,false,zeZ⟩
def d23:zam (Gn T F22) false ["wanted","colour"] (top 34)=some zij:=by rfl
theorem s23:FnScope ["wanted","colour"] ["wanted","colour"] (zac (top 34)):=⟨rfl,rfl,rfl,by decide +kernel,rfl,by decide +kernel,by decide +kernel⟩
noncomputable def F24:Fn3:=F23.cls "Ways" [.bl false] ⟨4,false,zaZ⟩
def d24:zam (Gn T (F23.at "Ways")) false ["self","tiles","floor","is_round"] (inC 0 (top 35))=some zb8:=by rfl
theorem s24:FnScope ["self","tiles","floor","is_round"] ["self","tiles","floor","is_round"] (zac (inC 0 (top 35))):=⟨rfl,rfl,rfl,by decide +kernel,rfl,by decide +kernel,by decide +kernel⟩
noncomputable def F25:Fn3:=F24.mt "first_seam" "Ways" ⟨1,false,za2⟩
def d25:zam (Gn T (F24.at "Ways")) false ["self"] (inC 1 (top 35))=some zbK:=by rfl
theorem s25:FnScope ["self"] ["self"] (zac (inC 1 (top 35))):=⟨rfl,rfl,rfl,by decide +kernel,rfl,by decide +kernel,by decide +kernel⟩
noncomputable def F26:Fn3:=F25.mt "ends_row" "Ways" ⟨2,false,zaL⟩
def d26:zam (Gn T (F25.at "Ways")) false ["self","step"] (inC 2 (top 35))=some zb7:=by rfl
theorem s26:FnScope ["self","step"] ["self","step"] (zac (inC 2 (top 35))):=⟨rfl,rfl,rfl,by decide +kernel,rfl,by decide +kernel,by decide +kernel⟩
noncomputable def F27:Fn3:=F26.mt "colour_round" "Ways" ⟨4,false,zap⟩
def d27:zam (Gn T (F26.at "Ways")) false ["self","step","seam","tile"] (inC 3 (top 35))=some zaR:=by rfl
theorem s27:FnScope ["self","step","seam","tile"] ["self","step","seam","tile"] (zac (inC 3 (top 35))):=⟨rfl,rfl,rfl,by decide +kernel,rfl,by decide +kernel,by decide +kernel⟩
noncomputable def F28:Fn3:=F27.mt "seam_behind" "Ways" ⟨4,false,zaV⟩
def d28:zam (Gn T (F27.at "Ways")) false ["self","step","seam","tile","is_last","in_last_row","east","south","around"] (inC 4 (top 35))=some zby:=by rfl
theorem s28:FnScope ["self","step","seam","tile","is_last","in_last_row","east","south","around"] ["self","step","seam","tile"] (zac (inC 4 (top 35))):=⟨rfl,rfl,rfl,by decide +kernel,rfl,by decide +kernel,by decide +kernel⟩
noncomputable def F29:Fn3:=F28.mt "numbers_for" "Ways" ⟨2,false,zaE⟩
def d29:zam (Gn T (F28.at "Ways")) false ["self","step","laid"] (inC 5 (top 35))=some zaW:=by rfl
theorem s29:FnScope ["self","step","laid"] ["self","step"] (zac (inC 5 (top 35))):=⟨rfl,rfl,rfl,by decide +kernel,rfl,by decide +kernel,by decide +kernel⟩
noncomputable def F30:Fn3:=F29.mt "fits_round" "Ways" ⟨4,false,zaK⟩
def d30:zam (Gn T (F29.at "Ways")) false ["self","step","seam","tile"] (inC 6 (top 35))=some za3:=by rfl
theorem s30:FnScope ["self","step","seam","tile"] ["self","step","seam","tile"] (zac (inC 6 (top 35))):=⟨rfl,rfl,rfl,by decide +kernel,rfl,by decide +kernel,by decide +kernel⟩
noncomputable def F31:Fn3:=F30.mt "fits" "Ways" ⟨4,false,zcI⟩
def d31:zam (Gn T (F30.at "Ways")) false ["self","step","seam","tile"] (inC 7 (top 35))=some zdP:=by rfl
theorem s31:FnScope ["self","step","seam","tile"] ["self","step","seam","tile"] (zac (inC 7 (top 35))):=⟨rfl,rfl,rfl,by decide +kernel,rfl,by decide +kernel,by decide +kernel⟩
noncomputable def F32:Fn3:=F31.mt "choices" "Ways" ⟨3,true,zbM⟩
def d32:zam (Gn T (F31.at "Ways")) true ["self","step","seam","found","number","tile"] (inC 8 (top 35))=some zcw:=by rfl
theorem s32:FnScope ["self","step","seam","found","number","tile"] ["self","step","seam"] (zac (inC 8 (top 35))):=⟨rfl,rfl,rfl,by decide +kernel,rfl,by decide +kernel,by decide +kernel⟩
noncomputable def F33:Fn3:=F32.mt "count_from" "Ways" ⟨3,false,zbG⟩
def d33:∀r,zam (Gn T ((F32.mt "count_from" "Ways" ⟨["self","step","seam"].length,false,r⟩).at "Ways")) false ["self","step","seam","key"] (inC 9 (top 35))=some (zai r):=by intro r;rfl
theorem s33:FnScope ["self","step","seam","key"] ["self","step","seam"] (zac (inC 9 (top 35))):=⟨rfl,rfl,rfl,by decide +kernel,rfl,by decide +kernel,by decide +kernel⟩
noncomputable def F34:Fn3:=F33.mt "count_all" "Ways" ⟨1,false,zbj⟩
def d34:zam (Gn T (F33.at "Ways")) false ["self"] (inC 10 (top 35))=some zbS:=by rfl
theorem s34:FnScope ["self"] ["self"] (zac (inC 10 (top 35))):=⟨rfl,rfl,rfl,by decide +kernel,rfl,by decide +kernel,by decide +kernel⟩
noncomputable def F35:Fn3:=F34.fn "count_fills" ⟨2,false,zbv⟩
def d35:zam (Gn T F34) false ["tiles","floor"] (top 36)=some zcM:=by rfl
theorem s35:FnScope ["tiles","floor"] ["tiles","floor"] (zac (top 36)):=⟨rfl,rfl,rfl,by decide +kernel,rfl,by decide +kernel,by decide +kernel⟩
noncomputable def F36:Fn3:=F35.fn "counted" ⟨1,true,zdW⟩
def d36:zam (Gn T F35) true ["things"] (top 38)=some zfk:=by rfl
theorem s36:FnScope ["things"] ["things"] (zac (top 38)):=⟨rfl,rfl,rfl,by decide +kernel,rfl,by decide +kernel,by decide +kernel⟩
noncomputable def F37:Fn3:=F36.fn "colours_on" ⟨2,true,zbO⟩
def d37:zam (Gn T F36) true ["tiles","floor","colours","number"] (top 39)=some zc9:=by rfl
theorem s37:FnScope ["tiles","floor","colours","number"] ["tiles","floor"] (zac (top 39)):=⟨rfl,rfl,rfl,by decide +kernel,rfl,by decide +kernel,by decide +kernel⟩
noncomputable def F38:Fn3:=F37.fn "meetings" ⟨2,true,zdn⟩
def d38:zam (Gn T F37) true ["tiles","floor","found","place"] (top 40)=some zeg:=by rfl
theorem s38:FnScope ["tiles","floor","found","place"] ["tiles","floor"] (zac (top 40)):=⟨rfl,rfl,rfl,by decide +kernel,rfl,by decide +kernel,by decide +kernel⟩
noncomputable def F39:Fn3:=F38.fn "seams" ⟨2,false,ze0⟩
def d39:zam (Gn T F38) false ["tiles","floor","met","alike"] (top 41)=some zik:=by rfl
theorem s39:FnScope ["tiles","floor","met","alike"] ["tiles","floor"] (zac (top 41)):=⟨rfl,rfl,rfl,by decide +kernel,rfl,by decide +kernel,by decide +kernel⟩
noncomputable def F40:Fn3:=F39.fn "_law_cell" ⟨2,false,zbF⟩
def d40:zam (Gn T F39) false ["_law_script","_law_k"] (top 43)=some zb6:=by rfl
theorem s40:FnScope ["_law_script","_law_k"] ["_law_script","_law_k"] (zac (top 43)):=⟨rfl,rfl,rfl,by decide +kernel,rfl,by decide +kernel,by decide +kernel⟩
noncomputable def F41:Fn3:=F40.fn "_law_pick" ⟨3,false,zan⟩
def d41:zam (Gn T F40) false ["_law_script","_law_k","_law_many","_law_drawn"] (top 44)=some zdO:=by rfl
theorem s41:FnScope ["_law_script","_law_k","_law_many","_law_drawn"] ["_law_script","_law_k","_law_many"] (zac (top 44)):=⟨rfl,rfl,rfl,by decide +kernel,rfl,by decide +kernel,by decide +kernel⟩
noncomputable def F42:Fn3:=F41.fn "_law_tiles" ⟨3,false,zci⟩
def d42:zam (Gn T F41) false ["_law_script","_law_at","_law_most","_law_colours","_law_made","_law_k","_law_tile"] (top 45)=some zda:=by rfl
theorem s42:FnScope ["_law_script","_law_at","_law_most","_law_colours","_law_made","_law_k","_law_tile"] ["_law_script","_law_at","_law_most"] (zac (top 45)):=⟨rfl,rfl,rfl,by decide +kernel,rfl,by decide +kernel,by decide +kernel⟩
noncomputable def F43:Fn3:=F42.fn "_law_floor" ⟨6,false,zbp⟩
def d43:zam (Gn T F42) false ["_law_script","_law_at","_law_tiles_here","_law_rows","_law_columns","_law_many","_law_made","_law_row","_law_line","_law_column","_law_here"] (top 46)=some zdc:=by rfl
theorem s43:FnScope ["_law_script","_law_at","_law_tiles_here","_law_rows","_law_columns","_law_many","_law_made","_law_row","_law_line","_law_column","_law_here"] ["_law_script","_law_at","_law_tiles_here","_law_rows","_law_columns","_law_many"] (zac (top 46)):=⟨rfl,rfl,rfl,by decide +kernel,rfl,by decide +kernel,by decide +kernel⟩
noncomputable def F44:Fn3:=F43.fn "_law_sides" ⟨2,false,zcj⟩
def d44:zam (Gn T F43) false ["_law_script","_law_at"] (top 47)=some zdb:=by rfl
theorem s44:FnScope ["_law_script","_law_at"] ["_law_script","_law_at"] (zac (top 47)):=⟨rfl,rfl,rfl,by decide +kernel,rfl,by decide +kernel,by decide +kernel⟩
noncomputable def F45:Fn3:=F44.fn "_law_some" ⟨3,false,zaO⟩
def d45:zam (Gn T F44) false ["_law_script","_law_at","_law_tiles_here","_law_rows","_law_columns"] (top 48)=some zb5:=by rfl
theorem s45:FnScope ["_law_script","_law_at","_law_tiles_here","_law_rows","_law_columns"] ["_law_script","_law_at","_law_tiles_here"] (zac (top 48)):=⟨rfl,rfl,rfl,by decide +kernel,rfl,by decide +kernel,by decide +kernel⟩
def d46:zam (Gn T F45) false ["_law_script","_law_tiles_here","_law_floor_here","_law_left","_law_order","_law_new","_law_made","_law_mine","_law_yours","_law_one","_law_other","_law_contrary","_law_rows","_law_columns","_law_small"] (top 49)=some zqo:=by rfl
theorem s46:FnScope ["_law_script","_law_tiles_here","_law_floor_here","_law_left","_law_order","_law_new","_law_made","_law_mine","_law_yours","_law_one","_law_other","_law_contrary","_law_rows","_law_columns","_law_small"] ["_law_script"] (zac (top 49)):=⟨rfl,rfl,rfl,by decide +kernel,rfl,by decide +kernel,by decide +kernel⟩
def gm{K:PySem.W.Frag}{x:Str}{st:Stmt}{f:Addr}{oc kV dc pm cd ct:Value}{od an:Option Addr}{sl:Array (Option Value)}(a:PySem.W.nsIn K mainGlobals x=some (some (.ref f)))(l:K.lookup f=some ⟨oc,od,.func (PySem.W.fnOf x x (zbz st) (zbm st) (zac st) .none kV dc pm an cd ct),sl⟩)(c:PySem.W.codeIn K cd x=true)(k:PySem.W.keepIn K (.ref f)=true)(i:PySem.W.isFn K (.ref f)=true):GFn K x st:=⟨f,a,oc,od,kV,dc,pm,an,cd,ct,sl,l,c,k,i⟩
def mm{K:PySem.W.Frag}{x q:Str}{st:Stmt}{f:Addr}{oc kV dc pm cd ct:Value}{od an:Option Addr}{sl:Array (Option Value)}{C:Addr}(a:PySem.W.findIn K (.ref C) x=some (some (.ref f)))(l:K.lookup f=some ⟨oc,od,.func (PySem.W.fnOf x q (zbz st) (zbm st) (zac st) .none kV dc pm an cd ct),sl⟩)(c:PySem.W.codeIn K cd q=true)(k:PySem.W.keepIn K (.ref f)=true)(i:PySem.W.isFn K (.ref f)=true):MFn K C x q st:=⟨f,a,oc,od,kV,dc,pm,an,cd,ct,sl,l,c,k,i⟩
def all_mk{l:PySem.W.OpenLaw}{w:PySem.World}{K:PySem.W.Frag}{h:Heap}{mg:Z6}{fa f46:Addr}(X:K.In h)(G:h.Ns mainGlobals mg)(hfa:mg "law" = some (.ref fa))
  {od46 an46:Option Addr} {sl46:Array (Option Value)} {oc46 kV46 dc46 pm46 cd46 ct46:Value}
  {yWays:Addr}
  (nyWays:PySem.W.nsIn K mainGlobals "Ways" = some (some (.ref yWays))) (pgWays:PySem.W.plainGet K yWays Str.empty=true) (hdWays:PySem.W.hasDictIn K yWays=true) (poWays:PySem.W.plainOver K yWays=true) (saWays:PySem.W.findIn K (.ref yWays) "__setattr__" = some (some (.builtin "object.__setattr__"))) (mkWays:PySem.W.makesIn K yWays=true) (kpWays:PySem.W.keepIn K (.ref yWays)=true)
  (naWaystiles:PySem.W.findIn K (.ref yWays) "tiles" = some none)
  (naWaysground:PySem.W.findIn K (.ref yWays) "ground" = some none)
  (naWayssize:PySem.W.findIn K (.ref yWays) "size" = some none)
  (naWaysis_round:PySem.W.findIn K (.ref yWays) "is_round" = some none)
  (naWaysknown:PySem.W.findIn K (.ref yWays) "known" = some none)
  {f24:Addr} {od24 an24:Option Addr} {sl24:Array (Option Value)} {oc24 kV24 dc24 pm24 cd24 ct24:Value}
  {dt24:Addr} {dl24:Value} {dm24:Option Addr} {dn24:Nat} {dq24:Array (Option Value)}
  (a24:PySem.W.findIn K (.ref yWays) "__init__" = some (some (.ref f24))) (i24:PySem.W.isFn K (.ref f24)=true)
  (l24:K.lookup f24=some ⟨oc24,od24,.func (PySem.W.fnOf "__init__" "Ways.__init__" (zbz (inC 0 (top 35))) (zbm (inC 0 (top 35))) (zac (inC 0 (top 35))) (.ref dt24) kV24 dc24 pm24 an24 cd24 ct24),sl24⟩) (c24:PySem.W.codeIn K cd24 "Ways.__init__" = true) (k24:PySem.W.keepIn K (.ref f24)=true)
  (dk24:K.lookup dt24=some ⟨dl24,dm24,.seq #[Value.bool false] dn24,dq24⟩)
  (a46:PySem.W.nsIn K mainGlobals "law" = some (some (.ref f46)))
  (l46:K.lookup f46=some ⟨oc46,od46,.func (PySem.W.fnOf "law" "law" (zbz (top 49)) (zbm (top 49)) (zac (top 49)) .none kV46 dc46 pm46 an46 cd46 ct46),sl46⟩) (c46:PySem.W.codeIn K cd46 "law" = true) (k46:PySem.W.keepIn K (.ref f46)=true)
  (z1:PySem.W.nsIn K mainGlobals "isinstance" = some none)
  (z2:PySem.W.nsIn K mainGlobals "int" = some none)
  (z3:PySem.W.nsIn K mainGlobals "bool" = some none)
  (z4:PySem.W.nsIn K mainGlobals "tuple" = some none)
  (z5:PySem.W.nsIn K mainGlobals "list" = some none)
  (z6:PySem.W.nsIn K mainGlobals "len" = some none)
  (z7:PySem.W.nsIn K mainGlobals "range" = some none)
  (z8:PySem.W.nsIn K mainGlobals "all" = some none)
  (z9:PySem.W.nsIn K mainGlobals "sum" = some none)
  (z10:PySem.W.nsIn K mainGlobals "enumerate" = some none)
  (z11:PySem.W.nsIn K mainGlobals "zip" = some none)
  (z12:PySem.W.nsIn K mainGlobals "sorted" = some none)
  (z13:PySem.W.nsIn K mainGlobals "set" = some none)
  (z14:PySem.W.nsIn K mainGlobals "ValueError" = some none)
  {gt1:Tok} (gl1:PySem.W.nsIn K mainGlobals "MOST_SIDE" = some (some (.int 6 gt1)))
  {gt2:Tok} (gl2:PySem.W.nsIn K mainGlobals "NORTH" = some (some (.int 0 gt2)))
  {gt3:Tok} (gl3:PySem.W.nsIn K mainGlobals "EAST" = some (some (.int 1 gt3)))
  {gt4:Tok} (gl4:PySem.W.nsIn K mainGlobals "SOUTH" = some (some (.int 2 gt4)))
  {gt5:Tok} (gl5:PySem.W.nsIn K mainGlobals "WEST" = some (some (.int 3 gt5)))
  {e0 e1:Addr}
  (n0:PySem.W.nsIn K mainGlobals "FloorError" = some (some (.ref e0))) (x0:PySem.W.excIn K e0 bmV "ValueError.__new__" = true)
  (n1:PySem.W.nsIn K mainGlobals "NoTile" = some (some (.ref e1))) (x1:PySem.W.excIn K e1 bmV "ValueError.__new__" = true)
  {el1:Value} {ed1:Option Addr} {ec1:ClassData} {es1:Array (Option Value)} (lk1:K.lookup e1=some ⟨el1,ed1,.cls ec1,es1⟩) (mr1:ec1.mro.contains (.ref e0)=true)
  (p1:GFn K "is_whole" (top 10)) (p2:GFn K "is_tuple_of" (top 11)) (p3:GFn K "has_number" (top 12)) (p4:GFn K "may_lie" (top 13)) (p5:GFn K "is_row" (top 14)) (p6:GFn K "is_floor" (top 15)) (p7:GFn K "size_of" (top 16)) (p8:GFn K "places_of" (top 17)) (p9:GFn K "number_at" (top 18)) (p10:GFn K "laid_places" (top 19)) (p11:GFn K "numbers_on" (top 20)) (p12:GFn K "has_place" (top 21)) (p13:GFn K "edge_at" (top 22)) (p14:GFn K "colours_east" (top 23)) (p15:GFn K "colours_south" (top 24)) (p16:GFn K "do_clash" (top 25)) (p17:GFn K "clashes" (top 26)) (p18:GFn K "is_order" (top 28)) (p19:GFn K "refuse_no_order" (top 29)) (p20:GFn K "set_by" (top 30)) (p21:GFn K "row_by" (top 31)) (p22:GFn K "floor_by" (top 32)) (p23:GFn K "suits" (top 34)) (p25:MFn K yWays "first_seam" "Ways.first_seam" (inC 1 (top 35))) (p26:MFn K yWays "ends_row" "Ways.ends_row" (inC 2 (top 35))) (p27:MFn K yWays "colour_round" "Ways.colour_round" (inC 3 (top 35))) (p28:MFn K yWays "seam_behind" "Ways.seam_behind" (inC 4 (top 35))) (p29:MFn K yWays "numbers_for" "Ways.numbers_for" (inC 5 (top 35))) (p30:MFn K yWays "fits_round" "Ways.fits_round" (inC 6 (top 35))) (p31:MFn K yWays "fits" "Ways.fits" (inC 7 (top 35))) (p32:MFn K yWays "choices" "Ways.choices" (inC 8 (top 35))) (p33:MFn K yWays "count_from" "Ways.count_from" (inC 9 (top 35))) (p34:MFn K yWays "count_all" "Ways.count_all" (inC 10 (top 35))) (p35:GFn K "count_fills" (top 36)) (p36:GFn K "counted" (top 38)) (p37:GFn K "colours_on" (top 39)) (p38:GFn K "meetings" (top 40)) (p39:GFn K "seams" (top 41)) (p40:GFn K "_law_cell" (top 43)) (p41:GFn K "_law_pick" (top 44)) (p42:GFn K "_law_tiles" (top 45)) (p43:GFn K "_law_floor" (top 46)) (p44:GFn K "_law_sides" (top 47)) (p45:GFn K "_law_some" (top 48))
  : ∃fd:FuncData,(∀(s:Shared) (v:Value),BindsTo s fd ⟨[v],[]⟩ [("_law_script",v)])/\∀base:Heap,K.In base->base.Ns mainGlobals mg->FnOk l.prog w K mg base (CXE l.prog w) 86 fa fd ["_law_script"] (S2.zms K):=by
 have e:=hfa.symm.trans (ybt X G a46);cases e;have CLWays:Cls K yWays:=⟨pgWays,hdWays,poWays,saWays⟩;have U24:FunD K "__init__" "Ways.__init__" (inC 0 (top 35)) f24 _ #[Value.bool false]:=⟨⟨_,_,_,_,dn24,_,_,_,_,_,_,_,rfl,l24,c24,dk24,rfl⟩⟩;have b24:zce K (PySem.W.fnOf "__init__" "Ways.__init__" (zbz (inC 0 (top 35))) (zbm (inC 0 (top 35))) (zac (inC 0 (top 35))) (.ref dt24) kV24 dc24 pm24 an24 cd24 ct24) ["self","tiles","floor","is_round"] []:=fun s us KX hl=>bb4 (p:=fun us=>BindsTo s _ ⟨us,[]⟩ ((["self","tiles","floor","is_round"]:List Str).zip (us++[]))) (fun _ _ _ _=>PySem.W.binds_K KX rfl dk24 rfl rfl rfl) us (by simpa using hl)
 have bd24:zce K (PySem.W.fnOf "__init__" "Ways.__init__" (zbz (inC 0 (top 35))) (zbm (inC 0 (top 35))) (zac (inC 0 (top 35))) (.ref dt24) kV24 dc24 pm24 an24 cd24 ct24) ["self","tiles","floor","is_round"] [Value.bool false]:=fun s us KX hl=>bb3 (p:=fun us=>BindsTo s _ ⟨us,[]⟩ ((["self","tiles","floor","is_round"]:List Str).zip (us++[Value.bool false]))) (fun _ _ _=>PySem.W.binds_K KX rfl dk24 rfl rfl rfl) us (by simpa using hl)
 have U46:=zoy (st:=(top 49)) l46 c46 k46;refine ⟨PySem.W.fnOf "law" "law" (zbz (top 49)) (zbm (top 49)) (zac (top 49)) .none kV46 dc46 pm46 an46 cd46 ct46,fun s v=>.of_eq rfl,fun base _ _=>?_⟩
 let cl:Cf:=⟨fun x=>(([("FloorError",e0),("NoTile",e1),("Ways",yWays)]:List (Str×Addr)).lookup x).getD 0,K,l.prog,w⟩
 have g0:GOk cl (Gn T F0) l.prog w K mg base 0:=zzB (cl:=cl) (zaw ⟨.int 6,_,ybt X G gl1,⟨_,rfl⟩,fun _=>.int _⟩ (zaw ⟨.int 0,_,ybt X G gl2,⟨_,rfl⟩,fun _=>.int _⟩ (zaw ⟨.int 1,_,ybt X G gl3,⟨_,rfl⟩,fun _=>.int _⟩ (zaw ⟨.int 2,_,ybt X G gl4,⟨_,rfl⟩,fun _=>.int _⟩ (zaw ⟨.int 3,_,ybt X G gl5,⟨_,rfl⟩,fun _=>.int _⟩ zfN))))) (zaw (yaN X G z1) (zaw (yaN X G z2) (zaw (yaN X G z3) (zaw (yaN X G z4) (zaw (yaN X G z5) (zaw (yaN X G z6) (zaw (yaN X G z7) (zaw (yaN X G z8) (zaw (yaN X G z9) (zaw (yaN X G z10) (zaw (yaN X G z11) (zaw (yaN X G z12) (zaw (yaN X G z13) (zaw (yaN X G z14) zfN)))))))))))))) (zaw ⟨ybt X G n0,x0⟩ (zaw ⟨ybt X G n1,x1⟩ zfN)) (zaw ⟨⟨_,_,x1⟩,_,_,_,_,lk1,mr1⟩ zfN) zfN (zaw ⟨CLWays,naWaystiles⟩ (zaw ⟨CLWays,naWaysground⟩ (zaw ⟨CLWays,naWayssize⟩ (zaw ⟨CLWays,naWaysis_round⟩ (zaw ⟨CLWays,naWaysknown⟩ zfN)))));have g1:GOk cl (Gn T F1) l.prog w K mg base 1:=g0.addG X G p1 s1 rfl rfl rfl (fun _ _ _ _ _ _=>bb1 fun _=>rfl) d1;have g2:GOk cl (Gn T F2) l.prog w K mg base 2:=g1.addG X G p2 s2 rfl rfl rfl (fun _ _ _ _ _ _=>bb3 fun _ _ _=>rfl) d2;have g3:GOk cl (Gn T F3) l.prog w K mg base 3:=g2.addG X G p3 s3 rfl rfl rfl (fun _ _ _ _ _ _=>bb2 fun _ _=>rfl) d3;have g4:GOk cl (Gn T F4) l.prog w K mg base 4:=g3.addG X G p4 s4 rfl rfl rfl (fun _ _ _ _ _ _=>bb2 fun _ _=>rfl) d4;have g5:GOk cl (Gn T F5) l.prog w K mg base 5:=g4.addG X G p5 s5 rfl rfl rfl (fun _ _ _ _ _ _=>bb2 fun _ _=>rfl) d5;have g6:GOk cl (Gn T F6) l.prog w K mg base 6:=g5.addG X G p6 s6 rfl rfl rfl (fun _ _ _ _ _ _=>bb2 fun _ _=>rfl) d6;have g7:GOk cl (Gn T F7) l.prog w K mg base 7:=g6.addG X G p7 s7 rfl rfl rfl (fun _ _ _ _ _ _=>bb1 fun _=>rfl) d7;have g8:GOk cl (Gn T F8) l.prog w K mg base 8:=g7.addG X G p8 s8 rfl rfl rfl (fun _ _ _ _ _ _=>bb1 fun _=>rfl) d8;have g9:GOk cl (Gn T F9) l.prog w K mg base 9:=g8.addG X G p9 s9 rfl rfl rfl (fun _ _ _ _ _ _=>bb2 fun _ _=>rfl) d9;have g10:GOk cl (Gn T F10) l.prog w K mg base 10:=g9.addG X G p10 s10 rfl rfl rfl (fun _ _ _ _ _ _=>bb1 fun _=>rfl) d10;have g11:GOk cl (Gn T F11) l.prog w K mg base 11:=g10.addG X G p11 s11 rfl rfl rfl (fun _ _ _ _ _ _=>bb1 fun _=>rfl) d11;have g12:GOk cl (Gn T F12) l.prog w K mg base 12:=g11.addG X G p12 s12 rfl rfl rfl (fun _ _ _ _ _ _=>bb2 fun _ _=>rfl) d12;have g13:GOk cl (Gn T F13) l.prog w K mg base 13:=g12.addG X G p13 s13 rfl rfl rfl (fun _ _ _ _ _ _=>bb4 fun _ _ _ _=>rfl) d13;have g14:GOk cl (Gn T F14) l.prog w K mg base 14:=g13.addG X G p14 s14 rfl rfl rfl (fun _ _ _ _ _ _=>bb3 fun _ _ _=>rfl) d14;have g15:GOk cl (Gn T F15) l.prog w K mg base 15:=g14.addG X G p15 s15 rfl rfl rfl (fun _ _ _ _ _ _=>bb3 fun _ _ _=>rfl) d15;have g16:GOk cl (Gn T F16) l.prog w K mg base 16:=g15.addG X G p16 s16 rfl rfl rfl (fun _ _ _ _ _ _=>bb1 fun _=>rfl) d16;have g17:GOk cl (Gn T F17) l.prog w K mg base 17:=g16.addG X G p17 s17 rfl rfl rfl (fun _ _ _ _ _ _=>bb2 fun _ _=>rfl) d17;have g18:GOk cl (Gn T F18) l.prog w K mg base 18:=g17.addG X G p18 s18 rfl rfl rfl (fun _ _ _ _ _ _=>bb2 fun _ _=>rfl) d18;have g19:GOk cl (Gn T F19) l.prog w K mg base 19:=g18.addG X G p19 s19 rfl rfl rfl (fun _ _ _ _ _ _=>bb2 fun _ _=>rfl) d19;have g20:GOk cl (Gn T F20) l.prog w K mg base 20:=g19.addG X G p20 s20 rfl rfl rfl (fun _ _ _ _ _ _=>bb2 fun _ _=>rfl) d20;have g21:GOk cl (Gn T F21) l.prog w K mg base 21:=g20.addG X G p21 s21 rfl rfl rfl (fun _ _ _ _ _ _=>bb2 fun _ _=>rfl) d21;have g22:GOk cl (Gn T F22) l.prog w K mg base 22:=g21.addG X G p22 s22 rfl rfl rfl (fun _ _ _ _ _ _=>bb3 fun _ _ _=>rfl) d22;have g23:GOk cl (Gn T F23) l.prog w K mg base 23:=g22.addG X G p23 s23 rfl rfl rfl (fun _ _ _ _ _ _=>bb2 fun _ _=>rfl) d23;have G24:=zs7 (cl:=cl) (wo:=w) (P:=l.prog) U24 s24 (g23.at "Ways") rfl rfl rfl d24;have g24:GOk cl (Gn T F24) l.prog w K mg base 25:=GOk.addK (k':=24) (fi:=⟨4,false,zaZ⟩) (dvs:=[.bl false]) (g23.up (by decide)) (by decide) (ybt X G nyWays) ⟨mkWays,a24,i24,kpWays⟩ b24 bd24 (.cons rfl .nil) (fun _=>(.cons (.bl _) .nil)) G24;have g25:GOk cl (Gn T F25) l.prog w K mg base 26:=g24.addMG (c:="Ways") CLWays p25 s25 rfl rfl rfl (fun _ _ _ _ _ _=>bb1 fun _=>rfl) d25;have g26:GOk cl (Gn T F26) l.prog w K mg base 27:=g25.addMG (c:="Ways") CLWays p26 s26 rfl rfl rfl (fun _ _ _ _ _ _=>bb2 fun _ _=>rfl) d26;have g27:GOk cl (Gn T F27) l.prog w K mg base 28:=g26.addMG (c:="Ways") CLWays p27 s27 rfl rfl rfl (fun _ _ _ _ _ _=>bb4 fun _ _ _ _=>rfl) d27;have g28:GOk cl (Gn T F28) l.prog w K mg base 29:=g27.addMG (c:="Ways") CLWays p28 s28 rfl rfl rfl (fun _ _ _ _ _ _=>bb4 fun _ _ _ _=>rfl) d28;have g29:GOk cl (Gn T F29) l.prog w K mg base 30:=g28.addMG (c:="Ways") CLWays p29 s29 rfl rfl rfl (fun _ _ _ _ _ _=>bb2 fun _ _=>rfl) d29;have g30:GOk cl (Gn T F30) l.prog w K mg base 31:=g29.addMG (c:="Ways") CLWays p30 s30 rfl rfl rfl (fun _ _ _ _ _ _=>bb4 fun _ _ _ _=>rfl) d30;have g31:GOk cl (Gn T F31) l.prog w K mg base 32:=g30.addMG (c:="Ways") CLWays p31 s31 rfl rfl rfl (fun _ _ _ _ _ _=>bb4 fun _ _ _ _=>rfl) d31;have g32:GOk cl (Gn T F32) l.prog w K mg base 33:=g31.addMG (c:="Ways") CLWays p32 s32 rfl rfl rfl (fun _ _ _ _ _ _=>bb3 fun _ _ _=>rfl) d32;have g33:GOk cl (Gn T F33) l.prog w K mg base 73:=g32.addRG (c:="Ways") CLWays p33 s33 rfl rfl rfl (fun _ _ _ _ _ _=>bb3 fun _ _ _=>rfl) d33 40;have g34:GOk cl (Gn T F34) l.prog w K mg base 74:=g33.addMG (c:="Ways") CLWays p34 s34 rfl rfl rfl (fun _ _ _ _ _ _=>bb1 fun _=>rfl) d34;have g35:GOk cl (Gn T F35) l.prog w K mg base 75:=g34.addG X G p35 s35 rfl rfl rfl (fun _ _ _ _ _ _=>bb2 fun _ _=>rfl) d35;have g36:GOk cl (Gn T F36) l.prog w K mg base 76:=g35.addG X G p36 s36 rfl rfl rfl (fun _ _ _ _ _ _=>bb1 fun _=>rfl) d36;have g37:GOk cl (Gn T F37) l.prog w K mg base 77:=g36.addG X G p37 s37 rfl rfl rfl (fun _ _ _ _ _ _=>bb2 fun _ _=>rfl) d37;have g38:GOk cl (Gn T F38) l.prog w K mg base 78:=g37.addG X G p38 s38 rfl rfl rfl (fun _ _ _ _ _ _=>bb2 fun _ _=>rfl) d38;have g39:GOk cl (Gn T F39) l.prog w K mg base 79:=g38.addG X G p39 s39 rfl rfl rfl (fun _ _ _ _ _ _=>bb2 fun _ _=>rfl) d39;have g40:GOk cl (Gn T F40) l.prog w K mg base 80:=g39.addG X G p40 s40 rfl rfl rfl (fun _ _ _ _ _ _=>bb2 fun _ _=>rfl) d40;have g41:GOk cl (Gn T F41) l.prog w K mg base 81:=g40.addG X G p41 s41 rfl rfl rfl (fun _ _ _ _ _ _=>bb3 fun _ _ _=>rfl) d41;have g42:GOk cl (Gn T F42) l.prog w K mg base 82:=g41.addG X G p42 s42 rfl rfl rfl (fun _ _ _ _ _ _=>bb3 fun _ _ _=>rfl) d42;have g43:GOk cl (Gn T F43) l.prog w K mg base 83:=g42.addG X G p43 s43 rfl rfl rfl (fun _ _ _ _ _ _=>bb6 fun _ _ _ _ _ _=>rfl) d43;have g44:GOk cl (Gn T F44) l.prog w K mg base 84:=g43.addG X G p44 s44 rfl rfl rfl (fun _ _ _ _ _ _=>bb2 fun _ _=>rfl) d44;have g45:GOk cl (Gn T F45) l.prog w K mg base 85:=g44.addG X G p45 s45 rfl rfl rfl (fun _ _ _ _ _ _=>bb3 fun _ _ _=>rfl) d45;have G46:=znA (cl:=cl) (wo:=w) (P:=l.prog) U46 s46 g45 rfl rfl rfl d46;exact G46.imp (zsL (cl:=cl) zng)
def walk{l:PySem.W.OpenLaw}{q:Program}{loose:List Str}{XP:(Str->Option Value)->Heap->Prop}{YP:PySem.World->Heap->Prop}{d:DefRec}{K:Params->PySem.W.Frag}(hn:l.most=some 63)(hdf:d.params.defaults=[])
  (hY:∀(w:PySem.World) (h:Heap),YP w h->(K w.params).In h)
  (F:∀(w:PySem.World) (mg:Z6) (fa:Addr) (h:Heap),(K w.params).In h->h.Ns mainGlobals mg->mg d.name=some (.ref fa) →
   ∃fd:FuncData,(∀(s:Shared) (u:Value),BindsTo s fd ⟨[u],[]⟩ [("_law_script",u)])/\∀base:Heap,(K w.params).In base->base.Ns mainGlobals mg->FnOk l.prog w (K w.params) mg base (CXE l.prog w) 86 fa fd ["_law_script"] (S2.zms (K w.params))) :
  PySem.W.WalkO q loose XP YP l.row.toRowW d [] (fun f vs=>PySem.call f vs) :=
 L2.zoN (n:=63) (k:=86) (x:="_law_script") (CX:=fun w=>CXE l.prog w) (sp:=fun w=>S2.zms (K w.params)) hn (by decide) hdf ⟨rfl,by decide,by decide⟩ hY F (fun _ _ a ns hl hO hS=>⟨a,ns,rfl,hl,hO,hS,fun _=>rfl⟩) (by rintro _ _ _ _ _ ⟨_,_,_,_,_,_,_,_,_,_,_,_,_,_,z⟩;exact z)
end M85
namespace PySem.W.Fast
noncomputable def tw4198519775227477657:=0
noncomputable def tw3276648935283941983:=0
noncomputable def tw6903806161742007323:=0
noncomputable def tw4744430277722188922:=0
noncomputable def tw15152191743739510705:=0
noncomputable def tw13706594113898017525:=0
noncomputable def tw15324565619590752224:=0
noncomputable def tw9621717253428310126:=0
noncomputable def tw11991569161940643646:=0
noncomputable def tw12602766556511655301:=0
noncomputable def tw6307615041444038602:=0
noncomputable def tw10399288468346721892:=0
noncomputable def tw12912602692176334970:=0
noncomputable def tw17900257116485961792:=0
noncomputable def tw18168270774324174303:=0
noncomputable def tw6125807080029809320:=0
noncomputable def tw2517250190985600272:=0
noncomputable def tw4372791806123546279:=0
noncomputable def tw12154943469857639648:=0
noncomputable def tw7416388492994947427:=0
noncomputable def tw13980211055516183993:=0
noncomputable def tw12107378287672059836:=0
noncomputable def tw13746913200261219606:=0
noncomputable def tw406162850822687818:=0
noncomputable def tw3435795256792985386:=0
noncomputable def tw10879509329517383158:=0
noncomputable def tw8846421705395377189:=0
noncomputable def tw3857113599538346362:=0
noncomputable def tw3813354375273063483:=0
noncomputable def tw806982880793089223:=0
noncomputable def tw18260291724677120714:=0
noncomputable def tw6081427702822994866:=0
noncomputable def tw5039439073333099775:=0
noncomputable def tw508888589625774026:=0
noncomputable def tw8825261254280005552:=0
noncomputable def tw8544299450848039361:=0
noncomputable def tw1507359561667294629:=0
noncomputable def tw1230548456159174284:=0
noncomputable def tw10721204960462164377:=0
noncomputable def tw8413678644581250540:=0
noncomputable def tw15518344531503762231:=0
noncomputable def tw9961137469644012309:=0
noncomputable def tw5796163458561474398:=0
noncomputable def tw13958847649982975770:=0
noncomputable def tw13054441692594121115:=0
noncomputable def tw12011771773037832781:=0
noncomputable def tw17501346908800222505:=0
noncomputable def tw2408493439062565780:=0
noncomputable def tw5554883541524624212:=0
noncomputable def tw7314034900988879966:=0
noncomputable def tw18354258300955426941:=0
noncomputable def tw13651771403405575018:=0
noncomputable def tw374840708047687269:=0
noncomputable def tw3544306992219596608:=0
noncomputable def tw2171928582186110610:=0
noncomputable def tw17953501925516400195:=0
noncomputable def tw13254231379222283731:=0
noncomputable def tw9802658528574550530:=0
noncomputable def tw13012344100404235893:=0
noncomputable def tw3937083931969147814:=0
noncomputable def tw5251987751644167309:=0
noncomputable def tw17125413440706941211:=0
noncomputable def tw5299841092813828310:=0
noncomputable def tw13231455466565283821:=0
noncomputable def tw17432542398019193997:=0
noncomputable def tw16512279271112879550:=0
noncomputable def tw11126953152120493260:=0
noncomputable def tw3714371270324167646:=0
noncomputable def tw2567255148322000294:=0
noncomputable def tw5610537993483048154:=0
noncomputable def tw9585192157971320445:=0
noncomputable def tw2247342806502700958:=0
noncomputable def tw14579690059053732239:=0
noncomputable def tw9651219087054202777:=0
noncomputable def tw13973880234729169626:=0
noncomputable def tw5143152383172969799:=0
noncomputable def tw16376486629997216639:=0
noncomputable def tw12664369600370842915:=0
noncomputable def tw1627886278799771926:=0
noncomputable def tw10776191285134122697:=0
noncomputable def tw9575527450182330819:=0
noncomputable def tw9191097899681193069:=0
noncomputable def tw9038680347234886683:=0
noncomputable def tw5003893586033339236:=0
noncomputable def tw621401153685743997:=0
noncomputable def tw10169112314683967132:=0
noncomputable def tw5965718356519291258:=0
noncomputable def tw5543802827665637011:=0
noncomputable def tw3973062574134085622:=0
noncomputable def tw13013831261584622482:=0
noncomputable def tw17525384336382948065:=0
noncomputable def tw17947045951498261379:=0
noncomputable def tw7411712650058715258:=0
noncomputable def tw16115724678799057231:=0
noncomputable def tw11467686200746481407:=0
noncomputable def tw3834658351438096557:=0
noncomputable def tw14924381550192747795:=0
noncomputable def tw4231928826027384165:=0
noncomputable def tw2453230360518150405:=0
noncomputable def tw13562630927443092984:=0
noncomputable def tw17972712122093325948:=0
noncomputable def tw5540998886285997090:=0
noncomputable def tw7708558347648894936:=0
noncomputable def tw11770824126734202391:=0
noncomputable def tw2407859519303906071:=0
noncomputable def tw3124571649785406358:=0
noncomputable def tw2313271989358070274:=0
noncomputable def tw15685212891663670813:=0
noncomputable def tw9111983737818879615:=0
noncomputable def tw1863881124868996399:=0
noncomputable def tw1416909922073711529:=0
noncomputable def tw2724159061211657391:=0
noncomputable def tw23797709610819860:=0
noncomputable def tw17554855467240017541:=0
noncomputable def tw10362310285437103122:=0
noncomputable def tw4149715866433403413:=0
noncomputable def tw1390593504611284754:=0
noncomputable def tw1235072044722754054:=0
noncomputable def tw7688474910287901363:=0
noncomputable def tw10968452881651372575:=0
noncomputable def tw7347776930503618445:=0
noncomputable def tw11327771898015510687:=0
noncomputable def tw7247045840820093278:=0
noncomputable def tw9541086879655339460:=0
noncomputable def tw10948465756112650715:=0
noncomputable def tw8620162873314937956:=0
noncomputable def tw17994022284820531188:=0
noncomputable def tw17738011801486027242:=0
noncomputable def tw14882640596346853546:=0
noncomputable def tw13750245744894395595:=0
noncomputable def tw15002114361962445514:=0
noncomputable def tw13598680484756893799:=0
noncomputable def tw17845714465549812177:=0
noncomputable def tw7356174821974185415:=0
noncomputable def tw6531236981502964347:=0
noncomputable def tw9271084686907177833:=0
noncomputable def tw2564969011539179798:=0
noncomputable def tw14705965452898864141:=0
noncomputable def tw8214375992706866718:=0
noncomputable def tw9339310323134155209:=0
noncomputable def tw11424508075124137320:=0
noncomputable def tw12157237816276967962:=0
noncomputable def tw7688729487817678388:=0
noncomputable def tw5409992537084844289:=0
noncomputable def tw5575625454196381038:=0
noncomputable def tw6957603313779046532:=0
noncomputable def tw7214327887308554023:=0
noncomputable def tw11311246841708626535:=0
noncomputable def tw1287219910661141076:=0
noncomputable def tw2043458865234578488:=0
noncomputable def tw18028872193606399363:=0
noncomputable def tw16798342637209318429:=0
noncomputable def tw10837555514950098169:=0
noncomputable def tw3619261849905815763:=0
noncomputable def tw6604200286444742032:=0
noncomputable def tw4083713862371226633:=0
noncomputable def tw18271517805196410593:=0
noncomputable def tw16711513208322344578:=0
noncomputable def tw17558091954073787813:=0
noncomputable def tw11147517548965566020:=0
noncomputable def tw1556719221175527380:=0
noncomputable def tw8214036193672138102:=0
noncomputable def tw5817147128588759438:=0
noncomputable def tw17001109426652478440:=0
noncomputable def tw2385272466887045921:=0
noncomputable def tw1575807077956775327:=0
noncomputable def tw12598484563301772171:=0
noncomputable def tw12397596856947284921:=0
noncomputable def tw2300306543896197931:=0
noncomputable def tw16826531504390244715:=0
noncomputable def tw12325868975596266511:=0
noncomputable def tw3403934424589375711:=0
noncomputable def tw15673977121887955427:=0
noncomputable def tw13723212393417010159:=0
noncomputable def tw8430822865578818602:=0
noncomputable def tw10028330273689634209:=0
noncomputable def tw6147058580883532348:=0
noncomputable def tw15515005345383372449:=0
noncomputable def tw2106797970450359754:=0
noncomputable def tw12022187531631470139:=0
noncomputable def tw881178065276238786:=0
noncomputable def tw3264376683605397009:=0
noncomputable def tw324192633005565898:=0
noncomputable def tw16035745840054849791:=0
noncomputable def tw14945838703060585130:=0
noncomputable def tw14576876866782007373:=0
noncomputable def tw8785239826142856623:=0
noncomputable def tw7285152131522784191:=0
noncomputable def tw9939856751212909764:=0
noncomputable def tw3208147951942076526:=0
noncomputable def tw3072242681227048746:=0
noncomputable def tw16029920524691699491:=0
noncomputable def tw11917710381239440820:=0
noncomputable def tw6519737536263226139:=0
noncomputable def tw12619546904846880718:=0
noncomputable def tw13138493774992326120:=0
noncomputable def tw5657835618195613358:=0
noncomputable def tw13704042349677356557:=0
noncomputable def tw8963519795267763616:=0
noncomputable def tw7470298717884166031:=0
noncomputable def tw14300658768212146259:=0
noncomputable def tw9907482612233290505:=0
noncomputable def tw8397565302904434260:=0
noncomputable def tw464446557316116207:=0
noncomputable def tw8679302991953131544:=0
noncomputable def tw3960591402500486289:=0
noncomputable def tw11184082957299911240:=0
noncomputable def tw4127626510313527487:=0
noncomputable def tw17463447563036306903:=0
noncomputable def tw10129698646156336490:=0
noncomputable def tw7042137817728402370:=0
noncomputable def tw4499573378369901859:=0
noncomputable def tw13225091341127395831:=0
noncomputable def tw6181453322165945836:=0
noncomputable def tw18057704786202799181:=0
noncomputable def tw16041109601148604764:=0
noncomputable def tw8867254934650592937:=0
noncomputable def tw15981320950193598930:=0
noncomputable def tw6065687561487314047:=0
noncomputable def tw5408966255714905445:=0
noncomputable def tw15778525089916316242:=0
noncomputable def tw2037113373469326768:=0
noncomputable def tw17585768703450085726:=0
noncomputable def tw14296184170213074746:=0
noncomputable def tw12261596253862897909:=0
noncomputable def tw17236008230597452664:=0
noncomputable def tw13003797766247208891:=0
noncomputable def tw16742928915538589560:=0
noncomputable def tw15643791866792045125:=0
noncomputable def tw8073120081544676420:=0
noncomputable def tw5315935731059544446:=0
noncomputable def tw2235765281858377246:=0
noncomputable def tw16654506293974882626:=0
noncomputable def tw15366832349674142321:=0
noncomputable def tw1441793545273744313:=0
noncomputable def tw1240936431240549738:=0
noncomputable def tw1530634288526493828:=0
noncomputable def tw13584505866472306520:=0
noncomputable def tw13131549880910473745:=0
noncomputable def tw11873002533053524235:=0
noncomputable def tw10618085817988876103:=0
noncomputable def tw2107975400211188450:=0
noncomputable def tw17254663083913475396:=0
noncomputable def tw453077224808713435:=0
noncomputable def tw12595236553739264260:=0
noncomputable def tw15380465371268913047:=0
noncomputable def tw17813389913673641434:=0
noncomputable def tw16794792347890165746:=0
noncomputable def tw6619184756340252600:=0
noncomputable def tw15578930269563333519:=0
noncomputable def tw9809756990381792976:=0
noncomputable def tw2410244162700445640:=0
noncomputable def tw15659140777106949501:=0
noncomputable def tw11405775613159088521:=0
noncomputable def tw9804597187737480595:=0
noncomputable def tw273368722709134221:=0
noncomputable def tw6060599991395292860:=0
noncomputable def tw18350383697453722939:=0
noncomputable def tw16056556427904349981:=0
noncomputable def tw13342529364890578951:=0
noncomputable def tw10868687262020966552:=0
noncomputable def tw16369055973513791003:=0
noncomputable def tw10598632608073496580:=0
noncomputable def tw7977005340853673241:=0
noncomputable def tw1875279857038946481:=0
noncomputable def tw4044912030543978493:=0
noncomputable def tw14453717537051033826:=0
noncomputable def tw14294871337699488254:=0
noncomputable def tw9318988245145807967:=0
noncomputable def tw4419295605973461077:=0
noncomputable def tw7528087040124726622:=0
noncomputable def tw10211072058719973130:=0
noncomputable def tw7701403106699342721:=0
noncomputable def tw2846557007251814098:=0
noncomputable def tw1440039000426753836:=0
noncomputable def tw14270972801750440556:=0
noncomputable def tw2378310486675019827:=0
noncomputable def tw7295142331876651153:=0
noncomputable def tw9635244702989380146:=0
noncomputable def tw3640457313889160920:=0
noncomputable def tw15008763527606514052:=0
noncomputable def tw11697294195666372426:=0
noncomputable def tw8441975263561168475:=0
noncomputable def tw3912212443248247851:=0
noncomputable def tw10616911695002952302:=0
noncomputable def tw17438293619070907359:=0
noncomputable def tw17769792815921955938:=0
noncomputable def tw5815797091866104136:=0
noncomputable def tw4268861197865390535:=0
noncomputable def tw2538073836889581715:=0
noncomputable def tw1322747822587754564:=0
noncomputable def tw11456517409484818369:=0
noncomputable def tw9448502707451559671:=0
noncomputable def tw942678010281031116:=0
noncomputable def tw9368488286809990711:=0
noncomputable def tw914534200538328251:=0
noncomputable def tw9112763152191857267:=0
noncomputable def tw8756516735960793234:=0
noncomputable def tw8433510947388564680:=0
noncomputable def tw8424011075313150534:=0
noncomputable def tw8301183938016716173:=0
noncomputable def tw8148785558681512790:=0
noncomputable def tw8049491138516109937:=0
noncomputable def tw7750389259353220202:=0
noncomputable def tw7734721594686251623:=0
noncomputable def tw7225792201197494019:=0
noncomputable def tw7038664234967763248:=0
noncomputable def tw6948234831457747460:=0
noncomputable def tw6826147904678893886:=0
noncomputable def tw6396396945438047672:=0
noncomputable def tw6335465277242277434:=0
noncomputable def tw6177972391086682617:=0
noncomputable def tw6153340291296732328:=0
noncomputable def tw6138270595460103900:=0
noncomputable def tw5312180606472043105:=0
noncomputable def tw528959740680974973:=0
noncomputable def tw5267508981737685719:=0
noncomputable def tw5204358777337577201:=0
noncomputable def tw5134381314455318499:=0
noncomputable def tw4942808905857057808:=0
noncomputable def tw4891106860020456830:=0
noncomputable def tw479671957051939461:=0
noncomputable def tw460717155559188842:=0
noncomputable def tw4582464045727661602:=0
noncomputable def tw446366224091000240:=0
noncomputable def tw4349825019663978826:=0
noncomputable def tw4284651025632751557:=0
noncomputable def tw4083943325281462065:=0
noncomputable def tw4010633066338962667:=0
noncomputable def tw3951601883547153193:=0
noncomputable def tw3872495000440915272:=0
noncomputable def tw378099070307219416:=0
noncomputable def tw3634025380756660425:=0
noncomputable def tw348220554631749635:=0
noncomputable def tw300073705272886112:=0
noncomputable def tw2996262490451938607:=0
noncomputable def tw2980400672671357451:=0
noncomputable def tw2932652690532553527:=0
noncomputable def tw2911838410387468555:=0
noncomputable def tw289188651365516467:=0
noncomputable def tw2652154541284047135:=0
noncomputable def tw2585560521407166803:=0
noncomputable def tw2379142735320589120:=0
noncomputable def tw2352216245099566863:=0
noncomputable def tw217782980773109598:=0
noncomputable def tw2121753273355873388:=0
noncomputable def tw2076671800266182622:=0
noncomputable def tw18044644715629172553:=0
noncomputable def tw18042307697971400127:=0
noncomputable def tw17791039840760042115:=0
noncomputable def tw17709442580239265412:=0
noncomputable def tw17704941034272772655:=0
noncomputable def tw1739889034328792106:=0
noncomputable def tw17356861583366789804:=0
noncomputable def tw16925224733268926516:=0
noncomputable def tw16912222308255952011:=0
noncomputable def tw16768332748106148468:=0
noncomputable def tw16570294595768144539:=0
noncomputable def tw16429618152907796691:=0
noncomputable def tw16392608716908783273:=0
noncomputable def tw16252326408288004718:=0
noncomputable def tw16232944569431026616:=0
noncomputable def tw16032813630654456272:=0
noncomputable def tw15971084873374275564:=0
noncomputable def tw15667585046403809986:=0
noncomputable def tw15547363684013989432:=0
noncomputable def tw15445708329253853398:=0
noncomputable def tw15410507056900152794:=0
noncomputable def tw15280621045893716810:=0
noncomputable def tw15116428522175066436:=0
noncomputable def tw15076149214548565967:=0
noncomputable def tw14942532439206543448:=0
noncomputable def tw14649911654047740905:=0
noncomputable def tw14474832583002451763:=0
noncomputable def tw14468644050187833830:=0
noncomputable def tw14443380659925824128:=0
noncomputable def tw14427417333200479114:=0
noncomputable def tw14252516953391668960:=0
noncomputable def tw1397964945755515844:=0
noncomputable def tw13942174150786804300:=0
noncomputable def tw13831500791662190211:=0
noncomputable def tw13791610786155005126:=0
noncomputable def tw1367477114758512100:=0
noncomputable def tw13405504589538251773:=0
noncomputable def tw13283061385432829638:=0
noncomputable def tw1326028872397413345:=0
noncomputable def tw13219065576915989280:=0
noncomputable def tw13170551636947010111:=0
noncomputable def tw12793348220694984818:=0
noncomputable def tw12333242326729261022:=0
noncomputable def tw12330586595963019081:=0
noncomputable def tw12159823212247639807:=0
noncomputable def tw11590608404072926003:=0
noncomputable def tw11352745942305681643:=0
noncomputable def tw11240807542299810023:=0
noncomputable def tw11233271613513525210:=0
noncomputable def tw11177165831696950717:=0
noncomputable def tw11160585359321607705:=0
noncomputable def tw11038950725465769615:=0
noncomputable def tw10619897897876172532:=0
noncomputable def tw10488544443024123159:=0
noncomputable def tw10465061934349660042:=0
noncomputable def tw10451508080973124556:=0
noncomputable def tw10291188419734714960:=0
noncomputable def tw10234425881441248646:=0
noncomputable def tw10034609398694976841:=0
end PySem.W.Fast
open PySem PySem.W PyProof.Rows
set_option maxRecDepth 100000 in
set_option maxHeartbeats 0 in
theorem PySem.Challenge.cw_floorfits_k85_whole_orders_holds : PySem.Challenge.rw_floorfits_k85_whole_orders.Holds := by
 w_on;o_law;k_head;(case hw=>w_witness2)
 k_fill
 refine M85.walk (l:=PySem.Challenge.rw_floorfits_k85_whole_orders) rfl rfl (fun w h Y=>PySem.W.kIn_of Y) ?F
 case F =>
  intro w mg fa h KX G hmg;refine' M85.all_mk KX G hmg ?nyWays ?pgWays ?hdWays ?poWays ?saWays ?mkWays ?kpWays ?naWaystiles ?naWaysground ?naWayssize ?naWaysis_round ?naWaysknown ?a24 ?i24 ?l24 ?c24 ?k24 ?dk24 ?a46 ?l46 ?c46 ?k46 ?z1 ?z2 ?z3 ?z4 ?z5 ?z6 ?z7 ?z8 ?z9 ?z10 ?z11 ?z12 ?z13 ?z14 ?gl1 ?gl2 ?gl3 ?gl4 ?gl5 ?n0 ?x0 ?n1 ?x1 ?lk1 ?mr1 ?_ ?_ ?_ ?_ ?_ ?_ ?_ ?_ ?_ ?_ ?_ ?_ ?_ ?_ ?_ ?_ ?_ ?_ ?_ ?_ ?_ ?_ ?_ ?_ ?_ ?_ ?_ ?_ ?_ ?_ ?_ ?_ ?_ ?_ ?_ ?_ ?_ ?_ ?_ ?_ ?_ ?_ ?_ ?_
  (case nyWays=>k_is);(case pgWays=>k_is);(case hdWays=>k_is);(case poWays=>k_is)
  (case saWays=>k_is);(case mkWays=>k_is);(case kpWays=>k_is);(case naWaystiles=>k_is)
  (case naWaysground=>k_is);(case naWayssize=>k_is);(case naWaysis_round=>k_is);(case naWaysknown=>k_is)
  (case a24=>k_is);(case i24=>k_is);(case l24=>k_is);(case c24=>k_is)
  (case k24=>k_is);(case dk24=>k_is);(case a46=>k_is);(case l46=>k_is)
  (case c46=>k_is);(case k46=>k_is);(case z1=>k_is);(case z2=>k_is)
  (case z3=>k_is);(case z4=>k_is);(case z5=>k_is);(case z6=>k_is)
  (case z7=>k_is);(case z8=>k_is);(case z9=>k_is);(case z10=>k_is)
  (case z11=>k_is);(case z12=>k_is);(case z13=>k_is);(case z14=>k_is)
  (case gl1=>k_is);(case gl2=>k_is);(case gl3=>k_is);(case gl4=>k_is)
  (case gl5=>k_is);(case n0=>k_is);(case x0=>k_exc);(case n1=>k_is)
  (case x1=>k_exc);(case lk1=>k_is);(case mr1=>with_unfolding_all rfl)
  all_goals ((first | refine' M85.gm ?a ?l ?c ?k ?i | refine' M85.mm ?a ?l ?c ?k ?i);(case a=>k_is);(case l=>k_is);(case c=>k_is);(case k=>k_is);(case i=>k_is))
#print axioms PySem.Challenge.cw_floorfits_k85_whole_orders_holds
end
