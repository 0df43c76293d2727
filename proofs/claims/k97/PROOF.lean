import PyProof.Rows.All
import Wide.All
import OpenK.AllK
import Wide.FinOn
import Lean
import PyProof.EqAt
import PyProof.EqKinds
import PyProof.TupleCall
import PySem.SetTable
import PyProof.TupleKey
import Wide.Seal
import PyProof.DictRoadsH
import PyProof.Rows.TupTab
import PyProof.Rows.TupDisplay
import PyProof.Draws
import PyProof.EnumMake
import OpenK.KRaise
import OpenK.KOwn
import PyProof.Rows.TopTwo
import PyProof.RulesAs
import PyProof.RulesDel
import PyProof.ExcArgsOwn
import PyProof.ExcAttrAll.ValueError
import PyProof.Rows.CountFlat
import PyProof.SumWalk
import PyProof.Rows.SeqCalls
import PyProof.ZipIter
import KE.KRevIter
import PyProof.CollectIter
import PyProof.TupleOfGen
import PyProof.ListRange
import PyProof.WalkInts
import PyProof.Rows.SetFrom
import PySem.Challenge.RW_floorfits_k97_whole_fills_told_otherwise
def yaa:=@List.getElem?_eq_getElem
def yab:=@List.getD_eq_getElem?_getD
def yac:=@Bool.and_eq_true
def yad:=@PySem.wpAny_bind
def yae:=@List.length_map
def yaf:=@PySem.Heap.get?_push_of_some
def yag:=@List.size_toArray
def yah:=@List.length_append
def yai:=@List.length_cons
def yaj:=@PySem.wpAny_pure
def yak:=@Nat.le_trans
def yal:=@List.getElem?_map
def yam:=@Nat.le_refl
def yan:=@List.getElem?_eq_some_iff
def yao:=@List.mem_cons_of_mem
def yap:=@List.getElem?_append_right
def yaq:=@Nat.lt_of_lt_of_le
def yar:=@of_decide_eq_true
def yas:=@PySem.Heap.lt_size
def yat:=@List.mem_map
def yau:=@PySem.Heap.get?_push_size
def yav:=@List.getElem?_eq_none
def yaw:=@List.mem_cons_self
def yax:=@List.getElem?_append_left
def yay:=@List.map_cons
def yaz:=@Nat.ne_of_lt
def yaA:=@List.mem_cons
def yaB:=@Int.toNat_natCast
def yaC:=@List.length_replicate
def yaD:=@decide_eq_true
def yaE:=@List.lookup_cons
def yaF:=@List.mem_singleton
def yaG:=@List.getElem?_set_self
def yaH:=@List.flatMap_cons
def yaI:=@List.mem_range
def yaJ:=@decide_eq_false
def yaK:=@List.map_map
def yaL:=@PySem.mem_of_lookup
def yaM:=@List.mem_append_right
def yaN:=@List.length_singleton
def yaO:=@List.length_filter_le
def yaP:=@PySem.W.mg_none_of
def yaQ:=@List.getElem?_set_ne
def yaR:=@List.length_set
def yaS:=@List.getElem_mem
def yaT:=@Bool.false_eq_true
def yaU:=@Option.some_ne_none
def yaV:=@List.not_mem_nil
def yaW:=@beq_eq_false_iff_ne
def yaX:=@List.append_nil
def yaY:=@PyProof.Rows.slot_tuple_getitem
def yaZ:=@PySem.Heap.size_push
def ya0:=@List.mem_filter
def ya1:=@List.all_eq_true
def ya2:=@Nat.lt_irrefl
def ya3:=@Nat.ne_of_gt
def ya4:=@List.replicate_succ
def ya5:=@List.range_succ
def ya6:=@List.length_take
def ya7:=@List.getElem?_replicate
def ya8:=@PySem.wpAny_callSpecial?_slot
def ya9:=@List.ext_getElem?
def yba:=@Bool.false_ne_true
def ybb:=@List.getElem?_drop
def ybc:=@PySem.W.kia_one
def ybd:=@Nat.mul_le_mul
def ybe:=@List.eq_nil_of_length_eq_zero
def ybf:=@List.mem_flatMap
def ybg:=@PySem.wpAny_truthy_bool
def ybh:=@decide_eq_true_eq
def ybi:=@PyProof.Rows.callWith_type1
def ybj:=@Bool.eq_iff_iff
def ybk:=@decide_eq_true_iff
def ybl:=@Int.eq_ofNat_of_zero_le
def ybm:=@PySem.wpAny_call_entry
def ybn:=@Nat.zero_le
def ybo:=@PySem.wpAny_newObj_type
def ybp:=@PySem.W.mg_of
def ybq:=@List.getLastD_eq_getLast?
def ybr:=@List.mem_append
def ybs:=@Nat.min_eq_left
def ybt:=@List.isEmpty_iff
def ybu:=@Nat.mul_le_mul_right
def ybv:=@Nat.mul_comm
def ybw:=@Nat.sub_self
def ybx:=@List.flatten_cons
def yby:=@List.length_range
def ybz:=@List.nodup_cons
def ybA:=@PySem.wpAny_field
def ybB:=@List.map_congr_left
def ybC:=@List.take_of_length_le
def ybD:=@PySem.F.slot_tuple_iterator_next
def ybE:=@PySem.wpAny_mono
def ybF:=@Nat.lt_succ_self
def ybG:=@List.length_drop
def ybH:=@decide_eq_decide
def ybI:=@List.map_flatMap
def ybJ:=@PySem.wpAny_pyIter_tuple
def ybK:=@List.all_cons
def ybL:=@List.mem_of_getElem?
def ybM:=@PySem.wpAny_passesOwn
def ybN:=@List.getElem?_take_of_lt
def ybO:=@if_false
def ybP:=@beq_self_eq_true
def ybQ:=@PySem.wpAny_seqItems
def ybR:=@List.drop_eq_nil_of_le
def ybS:=@PySem.wpAny_Call_Name_kw
def ybT:=@PySem.F.slot_int_rmul
def ybU:=@List.find?_cons
def ybV:=@List.map_append
def ybW:=@PySem.F.called_set
def ybX:=@Nat.add_mul
def ybY:=@PySem.F.excBase_ValueError
def ybZ:=@PySem.Calls.evalArgs_plain
def yb0:=@PySem.wpAny_binaryOp_repeat_ref
def yb1:=@List.drop_eq_getElem_cons
def yb2:=@List.flatMap_map
def yb3:=@List.filterMap_cons
def yb4:=@if_true
def yb5:=@Nat.le_succ
def yb6:=@List.getElem?_range
def yb7:=@Nat.le_of_lt
def yb8:=@PySem.F.args_tuple_add_2
def yb9:=@Nat.succ_mul
def yca:=@PySem.AutoSeq1.wpAny_loadPart'
def ycb:=@PySem.wpAny_holding
def ycc:=@List.mem_filterMap
def ycd:=@PySem.F.entry_tuple_add
def yce:=@PySem.F.plainAttrs_list
def ycf:=@PySem.wpAny_setField_rec
def ycg:=@List.getElem?_take
def ych:=@List.filter_map
def yci:=@List.flatMap_eq_nil_iff
def ycj:=@List.length_eq_zero_iff
def yck:=@List.filter_filter
def ycl:=@List.sum_cons
def ycm:=@PySem.F.slot_tuple_add
def ycn:=@PyProof.Rows.subscriptTail_builtinR
def yco:=@PySem.Calls.callWith_builtin
def ycp:=@List.filter_eq_nil_iff
def ycq:=@beq_iff_eq
def ycr:=@List.append_assoc
def ycs:=@Nat.lt_succ_of_lt
def yct:=@Bool.not_eq_true'
def ycu:=@List.filter_congr
def ycv:=@PySem.codeAny_mono
def ycw:=@PySem.Heap.get?_update_self
def ycx:=@PySem.F.slot_tuple_mul
def ycy:=@PySem.wpAny_forIn_list
def ycz:=@PySem.wpAny_isInstance
def ycA:=@List.any_eq_true
def ycB:=@List.filter_cons
def ycC:=@Bool.and_eq_true_iff
def ycD:=@List.length_dropLast
def ycE:=@Bool.not_true
def ycF:=@or_false
def ycG:=@PySem.typeIs_int
def ycH:=@PySem.call_meets
def ycI:=@Array.length_toList
def ycJ:=@PySem.wpAny_execs_nil
def ycK:=@PySem.W.plainGet_of
def ycL:=@List.nil_append
def ycM:=@List.forIn_cons
def ycN:=@Bool.or_eq_true
def ycO:=@PySem.F.slot_zip_next
def ycP:=@List.flatMap_append
def ycQ:=@List.length_nil
def ycR:=@List.length_pos_iff
def ycS:=@Nat.div_add_mod
def ycT:=@List.mem_map_of_mem
def ycU:=@Int.natCast_nonneg
def ycV:=@PySem.Calls.spliced_cons
def ycW:=@PySem.wpAny_tupleItemsOf
def ycX:=@Array.forIn_toList
def ycY:=@PySem.W.callWith_K
def ycZ:=@Nat.lt_of_le_of_lt
def yc0:=@Int.emod_lt_of_pos
def yc1:=@Nat.zero_add
def yc2:=@List.set_set
def yc3:=@PySem.wpAny_pyIter_list
def yc4:=@PySem.F.args_int_rmul_2
def yc5:=@Nat.le_of_succ_le
def yc6:=@List.take_add_one
def yc7:=@List.nodup_append
def yc8:=@Bool.true_and
def yc9:=@PySem.wpAny_rule
noncomputable section
set_option Elab.async false
set_option linter.all false
set_option maxRecDepth 100000
set_option maxHeartbeats 4000000
abbrev Z1:=Nat->Nat->Option Int
abbrev Z2:=List (List Int)
abbrev Z3:=List (PySem.Addr×PySem.Obj)
abbrev Z4:=List (Option Int)
abbrev Z5:=PySem.Value->PySem.Shared->Prop
abbrev Z6:=PySem.Str->Option PySem.Value
def S2.bdI{c k:Nat}(h:c<=k)(hk:k<=1000000):-1000000<=(c:Int)/\(c:Int)<=1000000:=⟨Int.le_trans (by decide) (ycU c),Int.ofNat_le.mpr (yak h hk)⟩
def S2.bdN{c k:Nat}(h:c<=k)(hk:k<=1000000):0<=(c:Int)/\(c:Int)<=1000000:=⟨ycU c,Int.ofNat_le.mpr (yak h hk)⟩
local macro_rules | `(tactic| omega) => `(tactic| first | assumption | exact yak (by assumption) (by decide) | exact yaq (by assumption) (by assumption) | exact yaq (by assumption) (by decide) | exact yb7 (by assumption) | exact S2.bdI (by assumption) (by decide) | exact yak (by assumption) (by assumption) | omega +splitDisjunctions)
namespace L2
open PySem PySem.Spec PyProof.Rows
noncomputable abbrev Key:=Sum Int Str
noncomputable def ztV:Key->Value->Bool
 | .inl k,v=>Value.isInt k v
 | .inr x,v=>Value.isStrOf x v
noncomputable def zzN(w:World):Key->Int
 | .inl k=>hashInt k
 | .inr x=>hashStr w x
theorem za4:∀{k:Key} {v:Value},ztV k v=true->(∃i t,k=Sum.inl i/\v=Value.int i t)\/(∃x t,k=Sum.inr x/\v=Value.str x t)
 | .inl i,v,h=>by
  obtain ⟨t,e⟩:=Value.isInt_shape (k:=i) (v:=v) h;exact .inl ⟨i,t,rfl,e⟩
 | .inr x,v,h=>by
  obtain ⟨t,e⟩:=Value.isStrOf_shape (x:=x) (v:=v) h;exact .inr ⟨x,t,rfl,e⟩
def ztU(a b:Int):decide ((Sum.inl a:Key)=Sum.inl b)=(a == b):=by
 by_cases e:a=b
 ·subst e;simp
 ·have h:¬ (Sum.inl a:Key)=Sum.inl b:=fun q=>e (Sum.inl.inj q)
  rw [yaJ h];exact (yaW.mpr e).symm
def ztR(a b:Str):decide ((Sum.inr a:Key)=Sum.inr b)=decide (a=b):=by
 by_cases e:a=b
 ·subst e;simp
 ·have h:¬ (Sum.inr a:Key)=Sum.inr b:=fun q=>e (Sum.inr.inj q)
  rw [yaJ h,yaJ e]
def ztT(a:Int)(b:Str):decide ((Sum.inl a:Key)=Sum.inr b)=false:=yaJ (fun q=>nomatch q)
def ztS(a:Str)(b:Int):decide ((Sum.inr a:Key)=Sum.inl b)=false:=yaJ (fun q=>nomatch q)
def zmm(prog:Program)(w:World):PySem.KeyKind prog w Key where
 is:=ztV
 hash:=zzN w
 inj:=fun v a b ha hb=>by
  rcases za4 ha with ⟨i,t,rfl,rfl⟩ | ⟨x,t,rfl,rfl⟩
  ·rcases za4 hb with ⟨j,u,rfl,e⟩ | ⟨y,u,rfl,e⟩
   ·injection e with e1 _;rw [e1]
   ·exact nomatch e
  ·rcases za4 hb with ⟨j,u,rfl,e⟩ | ⟨y,u,rfl,e⟩
   ·exact nomatch e
   ·injection e with e1 _;rw [e1]
 byValue:=fun k v h=>by
  rcases za4 h with ⟨i,t,rfl,rfl⟩ | ⟨x,t,rfl,rfl⟩<;>rfl
 pyHash:=fun hv h=>by
  rcases za4 hv with ⟨i,t,rfl,rfl⟩ | ⟨x,t,rfl,rfl⟩
  ·exact wpAny_pyHash_int h
  ·exact wpAny_pyHash_str h
 eqBool:=fun hu hv h=>by
  rcases za4 hu with ⟨i,t,rfl,rfl⟩ | ⟨x,t,rfl,rfl⟩
  ·rcases za4 hv with ⟨j,u,rfl,rfl⟩ | ⟨y,u,rfl,rfl⟩
   ·rw [ztU] at h;exact wpAny_eqBool_int h
   ·rw [ztT] at h;exact SeqAt.EqAt.int_str i t y u _ _ _ _ h
  ·rcases za4 hv with ⟨j,u,rfl,rfl⟩ | ⟨y,u,rfl,rfl⟩
   ·rw [ztS] at h;exact SeqAt.EqAt.str_int x t j u _ _ _ _ h
   ·rw [ztR] at h;exact wpAny_eqBool_str h
 «strs»:=fun k x t v h=>by
  rcases za4 h with ⟨i,u,rfl,e⟩ | ⟨y,u,rfl,e⟩
  ·exact nomatch e
  ·injection e with e1 _
   subst e1
   cases v<;>rfl
inductive V where
 | non | bl (b:Bool) | int (i:Int) | str (x:Str) | byt (b:Array UInt8) | flt (b:UInt64) | ref (a:Addr) | ty (n:String)
 deriving DecidableEq
noncomputable def zbM:V->Value->Prop
 | .non,u=>u=Value.none
 | .bl b,u=>u=Value.bool b
 | .int i,u=>∃t,u=Value.int i t
 | .str x,u=>∃t,u=Value.str x t
 | .byt b,u=>∃t,u=Value.bytes b t
 | .flt b,u=>∃t,u=Value.float b t
 | .ref a,u=>u=Value.ref a
 | .ty n,u=>u=Value.type n
noncomputable abbrev Vals:List V->List Value->Prop:=Paired zbM
theorem Vals.length(r:Vals xs us):xs.length=us.length:=Paired.length r
theorem Vals.get:∀{xs:List V} {us:List Value} {i:Nat} {x:V},Vals xs us->xs[i]?=some x->∃u,us[i]?=some u/\zbM x u
 | _,_,_,_,.nil,e=>by simp at e
 | _,_,0,_,.cons r _,e=>by simp at e;subst e;exact ⟨_,rfl,r⟩
 | _,_,i+1,x,.cons _ t,e=>by
  obtain ⟨u,h1,h2⟩:=Vals.get (i:=i) (x:=x) t (by simpa using e);exact ⟨u,by simpa using h1,h2⟩
theorem Vals.append:∀{xs ys:List V} {us ws:List Value},Vals xs us->Vals ys ws->Vals (xs++ys) (us++ws)
 | _,_,_,_,.nil,s=>s
 | _,_,_,_,.cons r t,s=>.cons r (Vals.append t s)
theorem Vals.take:∀{xs:List V} {us:List Value} (n:Nat),Vals xs us->Vals (xs.take n) (us.take n)
 | _,_,0,_=>.nil
 | _,_,_+1,.nil=>.nil
 | _,_,n+1,.cons r t=>.cons r (Vals.take n t)
theorem Vals.drop:∀{xs:List V} {us:List Value} (n:Nat),Vals xs us->Vals (xs.drop n) (us.drop n)
 | _,_,0,r=>r
 | _,_,_+1,.nil=>.nil
 | _,_,n+1,.cons _ t=>Vals.drop n t
noncomputable def znB:Option V->Option Value->Prop
 | some v,some u=>zbM v u
 | none,none=>True
 | _,_=>False
noncomputable def KV{κ:Type}:List (κ×V)->List (κ×Value)->Prop:=Paired fun (p:κ×V) (q:κ×Value)=>p.1=q.1/\zbM p.2 q.2
noncomputable def kV:Key->V
 | .inl i=>.int i
 | .inr x=>.str x
inductive HO where
 | lst (xs:List V)
 | tup (xs:List V)
 | dK (kvs:List (Key×V)) | dT (kvs:List (List Key×V))
 | set (S:Int->Bool) (n:Nat)
 | ins (C dx:Addr) (fs:List (Str×V))
 | own (x:Addr)
 | xd (fs:List (Str×V))
 | met (f x:Addr)
 | rng (lo hi:Int)
 | frz (o:Obj) (u:HO)
 | tbl (ps:Array Value)
 | ext (φ:Heap->Prop)
noncomputable abbrev Hp:=Addr->Option HO
noncomputable def upd(H:Hp)(a:Addr)(o:HO):Hp:=fun b=>if b=a then some o else H b
def zaM:upd H a o a=some o:=by unfold upd;rw [if_pos rfl]
def zau(h:b≠a):upd H a o b=H b:=by unfold upd;rw [if_neg h]
def zaF{H:Hp}{a b:Addr}{o:HO}(h:H a=some o)(h':H b=none):a≠b:=by
 intro e;subst e;rw [h] at h';cases h'
noncomputable def zo8(h:Heap)(a:Addr)(items:Array Value):Prop:=∃o,h.get? a=some o/\o.cls=.type "tuple" /\ ∃n,o.data=.seq items n/\o.dict=none
theorem zo8.t{h:Heap}{a:Addr}{items:Array Value}:zo8 h a items->IsTup h a items | ⟨o,e,c,n,d,_⟩=>⟨o,e,c,n,d⟩
def zo8.new(h:Heap)(items:Array Value):zo8 (h.push { cls:=.type "tuple",data:=.seq items }) h.objs.size items:=⟨_,yau _ rfl,rfl,_,rfl,rfl⟩
section
variable(P:Program)(w:World)
def zb8(H:Hp)(h:Heap)(a:Addr):HO->Prop
 | .lst xs=>xs.length<=sizeLine/\∃(its:List Value) (n:Nat),Vals xs its/\h.get? a=some { cls:=.type "list",data:=.seq its.toArray n }
 | .tup xs=>xs.length<=sizeLine/\∃its:List Value,Vals xs its/\zo8 h a its.toArray
 | .dK kvs=>kvs.length<=sizeLine/\(a == sysModules)=false/\∃vs,KV kvs vs/\h.DictOf (zmm P w) a vs
 | .dT kvs=>kvs.length<=sizeLine/\(a == sysModules)=false/\∃xs:List (List Key×Addr×Value),
   Paired (fun (p:List Key×V) (q:List Key×Addr×Value)=>p.1=q.1/\H q.2.1=some (.tup (p.1.map kV))/\zbM p.2 q.2.2) kvs xs ∧
   ∃o es ep,h.get? a=some o/\o.ExactDict/\o.data=.dict es ep/\es.toList=xs.map (entryOfKey (tupleKind (zmm P w)))/\(xs.map (·.1)).Nodup
 | .set S n=>h.SetOf (intKind P w) a S n
 | .ins C dx fs=>H dx=some (.own a)/\fs.length<=1000/\dx≠a/\h.get? a=some (PySem.W.instObj C dx) ∧
   ∃mA,h.Ns1 dx mA/\(∀f,znB (fs.lookup f) (mA f))/\PySem.Within mA (fs.map (·.1))
 | .own _=>∃o,h.get? a=some o
 | .xd fs=>∃mA,h.Ns1 a mA/\∀f,znB (fs.lookup f) (mA f)
 | .rng lo hi=>∃t u v,h.get? a=some { cls:=.type "range",data:=.fields #[.int lo t,.int hi u,.int 1 v] }
 | .frz o u=>h.get? a=some o/\zb8 H h a u
 | .tbl ps=>h.get? a=some { cls:=.none,data:=.fields ps }
 | .met f x=>h.get? a=some (PySem.W.methodObj (.ref f) (.ref x))
 | .ext φ=>φ h/\(∃o,h.get? a=some o)/\∀h1 h2:Heap,φ h1->(∀o,h1.get? a=some o->h2.get? a=some o)->φ h2
noncomputable def HOk(H:Hp)(h:Heap):Prop:=∀a o,H a=some o->zb8 P w H h a o
end
section
variable{P:Program}{w:World}{H H':Hp}{h h':Heap}{a:Addr}{o:HO}
theorem zb8.lt(x:zb8 P w H h a o):a<h.objs.size:=by
 cases o with
 | lst xs=>obtain ⟨_,_,_,_,e⟩:=x;exact yas e
 | tup xs=>obtain ⟨_,_,_,p⟩:=x;exact p.t.lt
 | dK kvs=>obtain ⟨_,_,_,_,o,_,_,e,_⟩:=x;exact yas e
 | dT kvs=>obtain ⟨_,_,_,_,o,_,_,e,_⟩:=x;exact yas e
 | set S n=>obtain ⟨o,_,_,_,e,_⟩:=x;exact yas e
 | ins C dx fs=>obtain ⟨_,_,_,e,_⟩:=x;exact yas e
 | own y=>obtain ⟨_,e⟩:=x;exact yas e
 | xd fs=>obtain ⟨_,⟨_,_,_,e,_⟩,_⟩:=x;exact yas e
 | rng lo hi=>obtain ⟨_,_,_,e⟩:=x;exact yas e
 | frz ob u=>obtain ⟨e,_⟩:=x;exact yas e
 | tbl ps=>exact yas (show h.get? a=some _ from x)
 | met f y=>exact yas (show h.get? a=some _ from x)
 | ext φ=>obtain ⟨_,⟨_,e⟩,_⟩:=x;exact yas e
theorem Paired.mapP{α β:Type}{F G:α->β->Prop}:∀{l₁:List α} {l₂:List β},Paired F l₁ l₂->(∀a b,F a b->G a b)->Paired G l₁ l₂
 | _,_,.nil,_=>.nil
 | _,_,.cons r t,f=>.cons (f _ _ r) (Paired.mapP t f)
def zb8.stay(x:zb8 P w H h a o)(k:∀b u,(b=a\/H b=some (.own a))->h.get? b=some u->h'.get? b=some u)
  (ho:∀b,H b=some (.own a)->H' b=some (.own a)) (ht:∀b xs,H b=some (.tup xs)->H' b=some (.tup xs)):zb8 P w H' h' a o:=by
 induction o with
 | lst xs=>obtain ⟨z,its,n,r,e⟩:=x;exact ⟨z,its,n,r,k _ _ (.inl rfl) e⟩
 | tup xs=>obtain ⟨z,its,r,ob,e,c⟩:=x;exact ⟨z,its,r,ob,k _ _ (.inl rfl) e,c⟩
 | dK kvs=>obtain ⟨z,y,vs,r,ob,es,ep,e,c⟩:=x;exact ⟨z,y,vs,r,ob,es,ep,k _ _ (.inl rfl) e,c⟩
 | dT kvs =>
  obtain ⟨z,y,xs,r,ob,es,ep,e,c⟩:=x;exact ⟨z,y,xs,Paired.mapP r fun p q z=>⟨z.1,ht _ _ z.2.1,z.2.2⟩,ob,es,ep,k _ _ (.inl rfl) e,c⟩
 | set S n=>obtain ⟨ob,es,ep,t,e,c⟩:=x;exact ⟨ob,es,ep,t,k _ _ (.inl rfl) e,c⟩
 | ins C dx fs =>
  obtain ⟨d,z,ne,e,mA,⟨od,es,ep,e2,c⟩,r⟩:=x;exact ⟨ho _ d,z,ne,k _ _ (.inl rfl) e,mA,⟨od,es,ep,k _ _ (.inr d) e2,c⟩,r⟩
 | own y=>obtain ⟨ob,e⟩:=x;exact ⟨ob,k _ _ (.inl rfl) e⟩
 | xd fs=>obtain ⟨mA,⟨od,es,ep,e,c⟩,r⟩:=x;exact ⟨mA,⟨od,es,ep,k _ _ (.inl rfl) e,c⟩,r⟩
 | rng lo hi=>obtain ⟨t,u,v,e⟩:=x;exact ⟨t,u,v,k _ _ (.inl rfl) e⟩
 | frz ob u ih=>obtain ⟨e,q⟩:=x;exact ⟨k _ _ (.inl rfl) e,ih q⟩
 | tbl ps =>
  have e:h.get? a=some { cls:=.none,data:=.fields ps }:=x;show h'.get? a=some { cls:=.none,data:=.fields ps };exact k a _ (.inl rfl) e
 | met f y =>
  have e:h.get? a=some (PySem.W.methodObj (.ref f) (.ref y)):=x;show h'.get? a=some (PySem.W.methodObj (.ref f) (.ref y));exact k a _ (.inl rfl) e
 | ext φ=>obtain ⟨p,⟨o,e⟩,st⟩:=x;exact ⟨st _ _ p fun o q=>k _ _ (.inl rfl) q,⟨o,k _ _ (.inl rfl) e⟩,st⟩
theorem HOk.lt(x:HOk P w H h)(e:H a=some o):a<h.objs.size:=(x a o e).lt
def HOk.fresh(x:HOk P w H h)(e:h.objs.size<=a):H a=none:=by
 cases q:H a with
 | none=>rfl
 | some u=>exact absurd (yaq (x.lt q) e) (ya2 _)
def HOk.kept(x:HOk P w H h)(k:∀b u,h.get? b=some u->h'.get? b=some u):HOk P w H h':=fun a o e =>
 (x a o e).stay (fun b u _ q=>k b u q) (fun _ q=>q) fun _ _ q=>q
def HOk.laid(x:HOk P w H h)(k:∀b u,h.get? b=some u->h'.get? b=some u)(hp:h.objs.size<=a)(new:zb8 P w (upd H a o) h' a o):HOk P w (upd H a o) h':=fun b u e=>by
 have hn:=x.fresh hp
 by_cases hb:b=a
 ·subst hb;rw [zaM] at e;cases e;exact new
 ·rw [zau hb] at e
  exact (x b u e).stay (fun c v _ q=>k c v q) (fun c q=>by rw [zau (zaF q hn)];exact q) fun c xs q=>by rw [zau (zaF q hn)];exact q
end
noncomputable def Rd(H:Hp)(a:Addr)(u:HO):Prop:=H a=some u\/∃o,H a=some (.frz o u)
def Rd.ok(r:Rd H a u)(x:HOk P w H h):zb8 P w H h a u:=by
 rcases r with r | ⟨o,r⟩
 ·exact x a u r
 ·obtain ⟨_,q⟩:=x a _ r;exact q
noncomputable def Mut:Option HO->Prop
 | some (.lst _)=>True
 | some (.dK _)=>True
 | some (.dT _)=>True
 | some (.set _ _)=>True
 | some (.ins _ _ _)=>True
 | some (.ext _)=>True
 | _=>False
section
variable{P:Program}{w:World}{H:Hp}{h h':Heap}{x e:Addr}{o':HO}
def HOk.write(ok:HOk P w H h)(mu:Mut (H x))(he:e=x\/H e=some (.own x))(k:∀b u,b≠e->h.get? b=some u->h'.get? b=some u)(heo:∃u,h'.get? e=some u)
  (new:zb8 P w (upd H x o') h' x o'):HOk P w (upd H x o') h':=fun b u q=>by
 have nown:∀c y,H c=some (.own y)->c≠x:=fun c y r z=>by subst z;rwa [r] at mu
 have ntup:∀c xs,H c=some (.tup xs)->c≠x:=fun c xs r z=>by subst z;rwa [r] at mu
 by_cases hb:b=x
 ·subst hb;rw [zaM] at q;cases q;exact new
 ·rw [zau hb] at q
  by_cases hbe:b=e
  ·have q':H b=some (.own x):=by
    rcases he with z | z
    ·exact absurd (hbe.trans z) hb
    ·rw [hbe];exact z
   rw [q] at q';cases q';obtain ⟨v,hv⟩:=heo;exact ⟨v,by rw [hbe];exact hv⟩
  ·refine (ok b u q).stay (fun c v hc r=>k c v ?_ r) (fun c r=>by rw [zau (nown c b r)];exact r) fun c xs r=>by rw [zau (ntup c xs r)];exact r
   rcases hc with rfl | hc
   ·exact hbe
   ·rintro rfl
    rcases he with z | z
    ·exact nown c b hc z
    ·rw [hc] at z;cases z;exact hb rfl
end
structure Un(fs ex:List Addr)(H H':Hp)(h h':Heap):Prop where
 keep:∀b o,h.get? b=some o->H b=none->b ∉ fs->b ∉ ex->h'.get? b=some o
 slot:∀b o,h.get? b=some o->H b=none->b∈fs->b ∉ ex->∃sl,h'.get? b=some { o with slots:=sl }
 free:∀b o,h.get? b=some o->H b=none->b ∉ ex->H' b=none
 there:∀b o,h.get? b=some o->b ∉ ex->∃o',h'.get? b=some o'
 tups:∀b xs,H b=some (.tup xs)->H' b=some (.tup xs)
 frzs:∀b o u,H b=some (.frz o u)->H' b=some (.frz o u)
 tbls:∀b ps,H b=some (.tbl ps)->∃more,H' b=some (.tbl (ps++more))
section
variable{fs fs' ex ex':List Addr}{H H1 H2:Hp}{h h1 h2 h':Heap}{a x e:Addr}{o:HO}
def Un.any(u:Un fs ex H H1 h h1)(q:h.get? b=some ob)(n:H b=none)(hx:b ∉ ex):∃sl,h1.get? b=some { ob with slots:=sl }:=by
 by_cases hb:b∈fs
 ·exact u.slot b ob q n hb hx
 ·exact ⟨ob.slots,u.keep b ob q n hb hx⟩
def Un.kept(k:∀b u,h.get? b=some u->h'.get? b=some u):Un fs ex H H h h' :=
 ⟨fun b ob q _ _ _=>k b ob q,fun b ob q _ _ _=>⟨ob.slots,k b ob q⟩,fun _ _ _ n _=>n,fun b ob q _=>⟨ob,k b ob q⟩,fun _ _ q=>q,fun _ _ _ q=>q,fun _ ps q=>⟨#[],by rw [q];simp⟩⟩
def Un.refl:Un fs ex H H h h:=Un.kept fun _ _ q=>q
def Un.laid(k:∀b u,h.get? b=some u->h'.get? b=some u)(hp:h.objs.size<=a)(hn:H a=none):Un fs ex H (upd H a o) h h' where
 keep:=fun b u q _ _ _=>k b u q
 slot:=fun b u q _ _ _=>⟨u.slots,k b u q⟩
 free:=fun b u q n _=>by rw [zau (yaz (yaq (yas q) hp))];exact n
 there:=fun b u q _=>⟨u,k b u q⟩
 tups:=fun b xs q=>by rw [zau (zaF q hn)];exact q
 frzs:=fun b u xs q=>by rw [zau (zaF q hn)];exact q
 tbls:=fun b ps q=>⟨#[],by rw [zau (zaF q hn),q];simp⟩
def Un.write(mu:Mut (H x))(he:e=x\/H e=some (.own x))(k:∀b u,b≠e->h.get? b=some u->h'.get? b=some u)(heo:∃u,h'.get? e=some u):Un fs ex H (upd H x o) h h':=by
 have hx:∀b,H b=none->b≠x:=fun b n z=>by subst z;rwa [n] at mu
 have hb:∀b,H b=none->b≠e:=fun b n z=>by
  subst z
  rcases he with r | r
  ·exact hx b n r
  ·rw [n] at r;cases r
 have hm:∀b u,H b=some u->¬ Mut (some u)->b≠x:=fun b u q nm z=>by subst z;rw [q] at mu;exact nm mu
 refine ⟨fun b u q n _ _=>k b u (hb b n) q,fun b u q n _ _=>⟨u.slots,k b u (hb b n) q⟩,fun b u q n _=>by rw [zau (hx b n)];exact n,fun b u q _=>?_,
  fun b xs q=>by rw [zau (hm b _ q fun z=>z)];exact q,fun b u xs q=>by rw [zau (hm b _ q fun z=>z)];exact q,fun b ps q=>⟨#[],by rw [zau (hm b _ q fun z=>z),q];simp⟩⟩
 by_cases hbe:b=e
 ·subst hbe;exact heo
 ·exact ⟨u,k b u hbe q⟩
end
noncomputable def trk(h:Heap)(H:Hp):List Addr:=(List.range h.objs.size).filter fun a=>(H a).isSome
def zoH(h:Heap)(H:Hp):Heap:=PySem.W.hideAll h (trk h H)
def zmO(h:Heap)(H:Hp):(zoH h H).objs.size=h.objs.size:=PySem.W.hideAll_size _ _
def zoG(e:h.get? b=some o)(n:H b=none):(zoH h H).get? b=some o :=
 PySem.W.hideAll_get _ e fun hm=>by
  have q:(H b).isSome=true:=(ya0.mp hm).2;rw [n] at q;simp at q
def zqN(e:(zoH h H).get? b=some o):h.get? b=some o/\H b=none:=by
 have e':h.get? b=some o:=PySem.W.of_hideAll (trk h H) e;refine ⟨e',?_⟩
 cases q:H b with
 | none=>rfl
 | some x =>
  have hm:b∈trk h H:=ya0.mpr ⟨yaI.mpr (yas e'),by simp [q]⟩;have z:(zoH h H).get? b=none:=PySem.W.hideAll_none (trk h H) hm;rw [z] at e;cases e
noncomputable def zrS(g h:Heap)(L:Addr):List (Addr×Obj):=(List.range h.objs.size).filterMap fun a=>if a=L\/(g.get? a).isSome=true then none else (h.get? a).map fun o=>(a,o)
def zcj(g h:Heap)(L d:Addr):List (Addr×Obj):=(zrS g h L).filter fun p=>decide (p.1≠d)
structure Mod(K:PySem.W.Frag)(mg:Z6)(base:Heap):Prop where
 kin:K.In base
 glob:base.Ns mainGlobals mg
 blt:∃mb,base.Ns builtinsNs mb/\∀x:Str,x ≠ "__name__" -> mb x=bootBuiltins x
 nolimit:base.NoLimit
structure Cx where
 prog:Program
 w:World
 K:PySem.W.Frag
 mg:Str->Option Value
 base:Heap
 A:Around
 N:List Str
 s₀:Shared
 H₀:Hp
 env:Env
 outer:List Env
 stack:List Env
 ex:List Addr
 fn:Str->Bool
 calm:Bool
 pn:List (Addr×Obj)
 xe:Value->Shared->Prop
noncomputable def frs(l:List Env):List Addr:=l.filterMap (·.frame)
noncomputable abbrev Cx.fs(X:Cx):List Addr:=frs X.outer
noncomputable def Vis(sc:Scope)(x:Str):Prop:=sc.names.lookup x=some .local\/sc.names.lookup x=some .cell\/sc.names.lookup x=some .free
noncomputable def Loc(sc:Scope)(x:Str):Prop:=sc.names.lookup x=some .local\/sc.names.lookup x=some .cell
noncomputable def zAD(env:Env)(h:Heap)(m:Z6)(x:Str)(u:Value):Prop :=
 (env.kindOf x=some .local/\m x=some u)\/((env.kindOf x=some .cell\/env.kindOf x=some .free)/\∃c,env.cells.lookup x=some c/\h.IsCell c (some u))
structure Cx.Ok(X:Cx):Prop where
 mod:Mod X.K X.mg X.base
 kind:X.env.scope.kind=.function
 glob:X.env.globals=mainGlobals
 blt:X.env.builtins=builtinsNs
 above:X.s₀.heap.objs.size<=X.env.locals
 inj:∀x y c,X.env.cells.lookup x=some c->X.env.cells.lookup y=some c->x=y
 has:∀x,(X.env.kindOf x=some .cell\/X.env.kindOf x=some .free)->∃c,X.env.cells.lookup x=some c
 cab:∀x c,X.fn x=true->X.env.cells.lookup x=some c->X.s₀.heap.objs.size<=c
 hd:X.calm=true->X.A.handled=none
 frames:X.A.frames=some X.stack
 stk:X.stack=X.outer\/(X.stack=X.env::X.outer/\X.env.frame=some X.env.locals)
 exf:∀b∈X.ex,b≠X.env.locals/\∀x c,X.env.cells.lookup x=some c->c≠b
 bs:∀b o,X.base.get? b=some o->X.s₀.heap.get? b=some o/\X.H₀ b=none
 bsz:X.base.objs.size<=X.s₀.heap.objs.size
 noex:∀b o,X.base.get? b=some o->b ∉ X.ex
 exfs:∀b∈X.ex,b ∉ X.fs
 funs:X.s₀.heap.FunFrames X.base X.outer
 frf:∀b∈X.fs,X.H₀ b=none
structure Inv(X:Cx)(pins:Z3)(σ:List (Option V))(H:Hp)(s:Shared):Prop where
 ok:X.Ok
 os:s.os=X.s₀.os
 bare:AllBare s.gens
 base:Un X.fs X.ex X.H₀ H X.s₀.heap s.heap
 loc:∃m,s.heap.Ns X.env.locals m/\∀(i:Nat) (x:Str) (v:V),X.N[i]?=some x->σ[i]?=some (some v)->Vis X.env.scope x->∃u,zbM v u/\zAD X.env s.heap m x u
 cell:∀x c,X.env.cells.lookup x=some c->∃v,s.heap.IsCell c v
 free:H X.env.locals=none
 freeC:∀x c,X.env.cells.lookup x=some c->H c=none
 pin:∀p∈X.pn++pins,s.heap.get? p.1=some p.2/\H p.1=none/\p.1≠X.env.locals/\p.1 ∉ X.fs/\∀v,p.2.data≠.cell v
 hok:HOk X.prog X.w H s.heap
 len:σ.length=X.N.length
section
variable{X:Cx}{pins:Z3}{σ:List (Option V)}{H H':Hp}{s:Shared}{h':Heap}
def Cx.Ok.nofr(ok:X.Ok)(e:X.base.get? b=some o):b ∉ X.fs:=fun hb=>by
 have:=(ok.funs.mem hb).1;rw [e] at this;cases this
theorem Inv.bs(I:Inv X pins σ H s):∀b o,X.base.get? b=some o->s.heap.get? b=some o/\H b=none:=fun b o e =>
 ⟨I.base.keep b o (I.ok.bs b o e).1 (I.ok.bs b o e).2 (I.ok.nofr e) (I.ok.noex b o e),I.base.free b o (I.ok.bs b o e).1 (I.ok.bs b o e).2 (I.ok.noex b o e)⟩
def Inv.bk(I:Inv X pins σ H s):∀b o,X.base.get? b=some o->s.heap.get? b=some o:=fun b o e=>(I.bs b o e).1
theorem Inv.mod(I:Inv X pins σ H s):Mod X.K X.mg X.base:=I.ok.mod
def Inv.kIn(I:Inv X pins σ H s):X.K.In s.heap:=I.ok.mod.kin.keeps I.bk
theorem Inv.lt(I:Inv X pins σ H s):X.env.locals<s.heap.objs.size:=let ⟨_,hn,_⟩:=I.loc;hn.lt
def Inv.sz(I:Inv X pins σ H s):X.s₀.heap.objs.size<=s.heap.objs.size:=yak I.ok.above (yb7 I.lt)
def Inv.nofs(I:Inv X pins σ H s)(h:s.heap.objs.size<=a):a ∉ X.fs:=fun hb=>by
 obtain ⟨_,o,ho,_⟩:=I.ok.funs.mem hb;exact absurd (yaq (yas ho) (yak I.sz h)) (ya2 _)
def Inv.cne(I:Inv X pins σ H s):∀x c,X.env.cells.lookup x=some c->c≠X.env.locals:=fun x c e z=>by
 obtain ⟨v,o,ho,hd⟩:=I.cell x c e;obtain ⟨m,⟨o',es,ep,ho',hd',_⟩,_⟩:=I.loc;rw [z,ho'] at ho;cases ho;rw [hd'] at hd;cases hd
theorem Inv.funs(I:Inv X pins σ H s):s.heap.FunFrames X.base X.outer:=by
 have all:∀(l:List Env),(∀b∈frs l,b∈X.fs)->X.s₀.heap.FunFrames X.base l->s.heap.FunFrames X.base l:=by
  intro l
  induction l with
  | nil=>intro _ _;trivial
  | cons env r ih =>
   intro hs hl;obtain ⟨hk,⟨L,o,hf,hn,ho,hd⟩,hr⟩:=hl;have hL:L∈X.fs:=hs L (by unfold frs;rw [yb3,hf];exact yaw);obtain ⟨sl,e⟩:=I.base.slot L o ho (I.ok.frf L hL) hL fun z=>I.ok.exfs L z hL
   exact ⟨hk,⟨L,_,hf,hn,e,hd⟩,ih (fun b hb=>hs b (by unfold frs;rw [yb3,hf];exact yao _ hb)) hr⟩
 exact all X.outer (fun _ hb=>hb) I.ok.funs
theorem Inv.stack(I:Inv X pins σ H s):s.heap.FunFrames X.base X.stack:=by
 rcases I.ok.stk with e | ⟨e,hf⟩
 ·rw [e];exact I.funs
 ·rw [e];obtain ⟨m,hn,_⟩:=I.loc;refine .cons (by rw [I.ok.kind];decide) hf hn ?_ I.funs;exact Heap.get?_none_of_le (yak I.ok.bsz I.ok.above)
def Inv.stkSub(I:Inv X pins σ H s):∀b∈frs X.stack,b∈X.env.locals::X.fs:=fun b hb=>by
 rcases I.ok.stk with e | ⟨e,hf⟩
 ·rw [e] at hb;exact yao _ hb
 ·rw [e] at hb;unfold frs at hb;rwa [yb3,hf] at hb
def Inv.stkFree(I:Inv X pins σ H s):∀b∈frs X.stack,H b=none:=fun b hb=>by
 rcases yaA.mp (I.stkSub b hb) with e | hb
 ·rw [e];exact I.free
 ·obtain ⟨_,o,ho,_⟩:=I.ok.funs.mem hb;exact I.base.free b o ho (I.ok.frf b hb) fun z=>I.ok.exfs b z hb
def Inv.step{g':Array GenState}{t':Nat}{d':Drawn}{ch:List Addr}(I:Inv X pins σ H s)
  (hch:∀b∈ch,(b∈X.ex\/X.s₀.heap.objs.size<=b)/\b≠X.env.locals/\(∀x c,X.env.cells.lookup x=some c->c≠b)/\∀p∈X.pn++pins,p.1≠b)
  (keep:∀b o,b≠X.env.locals->b ∉ X.fs->b ∉ ch->s.heap.get? b=some o->H b=none->h'.get? b=some o)
  (slot:∀b o,b≠X.env.locals->b∈X.fs->b ∉ ch->s.heap.get? b=some o->H b=none->∃sl,h'.get? b=some { o with slots:=sl }) (free:∀b o,b ∉ ch->s.heap.get? b=some o->H b=none->H' b=none)
  (there:∀b o,b ∉ ch->s.heap.get? b=some o->∃o',h'.get? b=some o')
  (tups:∀b xs,H b=some (.tup xs)->H' b=some (.tup xs)) (frzs:∀b o u,H b=some (.frz o u)->H' b=some (.frz o u)) (tbls:∀b ps,H b=some (.tbl ps)->∃more,H' b=some (.tbl (ps++more)))
  (ns:∀m,s.heap.Ns X.env.locals m->h'.Ns X.env.locals m) (hok:HOk X.prog X.w H' h') (hg:AllBare g') :
  Inv X pins σ H' { s with heap:=h',gens:=g',drawn:=d',toks:=t' }:=by
 have neL:∀b o,X.s₀.heap.get? b=some o->b≠X.env.locals:=fun b o e=>yaz (yaq (yas e) I.ok.above)
 have neC:∀b o,X.s₀.heap.get? b=some o->b ∉ X.ex->b ∉ ch:=fun b o e hx hb=>by
  rcases (hch b hb).1 with z | z
  ·exact hx z
  ·exact absurd (yaq (yas e) z) (ya2 _)
 have cellK:∀x c,X.env.cells.lookup x=some c->∀v,s.heap.IsCell c v->h'.IsCell c v:=fun x c e v ⟨o,ho,hd⟩=>by
  have nch:c ∉ ch:=fun z=>(hch c z).2.2.1 x c e rfl
  by_cases hc:c∈X.fs
  ·obtain ⟨sl,q⟩:=slot c o (I.cne x c e) hc nch ho (I.freeC x c e);exact ⟨_,q,hd⟩
  ·exact ⟨o,keep c o (I.cne x c e) hc nch ho (I.freeC x c e),hd⟩
 refine ⟨I.ok,I.os,hg,⟨fun b o e n hb hx=>?_,fun b o e n hb hx=>?_,fun b o e n hx=>?_,fun b o e hx=>?_,fun b xs e=>tups b xs (I.base.tups b xs e),fun b o xs e=>frzs b o xs (I.base.frzs b o xs e),fun b ps e=>?_⟩,?_,fun x c e=>?_,?_,fun x c e=>?_,fun p hp=>?_,hok,I.len⟩
 ·exact keep b o (neL b o e) hb (neC b o e hx) (I.base.keep b o e n hb hx) (I.base.free b o e n hx)
 ·obtain ⟨sl,e1⟩:=I.base.slot b o e n hb hx;obtain ⟨sl',e2⟩:=slot b _ (neL b o e) hb (neC b o e hx) e1 (I.base.free b o e n hx);exact ⟨sl',e2⟩
 ·obtain ⟨o',e1⟩:=I.base.there b o e hx;exact free b o' (neC b o e hx) e1 (I.base.free b o e n hx)
 ·obtain ⟨o',e1⟩:=I.base.there b o e hx;exact there b o' (neC b o e hx) e1
 ·obtain ⟨m1,e1⟩:=I.base.tbls b ps e;obtain ⟨m2,e2⟩:=tbls b _ e1;exact ⟨m1++m2,by rw [e2,Array.append_assoc]⟩
 ·obtain ⟨m,hn,hl⟩:=I.loc;refine ⟨m,ns m hn,fun i x v e1 e2 e3=>?_⟩;obtain ⟨u,r,l⟩:=hl i x v e1 e2 e3;refine ⟨u,r,?_⟩
  rcases l with l | ⟨k,c,e,z⟩
  ·exact .inl l
  ·exact .inr ⟨k,c,e,cellK x c e _ z⟩
 ·obtain ⟨v,z⟩:=I.cell x c e;exact ⟨v,cellK x c e v z⟩
 ·obtain ⟨m,⟨o,_,_,ho,_⟩,_⟩:=I.loc;exact free _ o (fun z=>(hch _ z).2.1 rfl) ho I.free
 ·obtain ⟨v,o,ho,hd⟩:=I.cell x c e;exact free c o (fun z=>(hch c z).2.2.1 x c e rfl) ho (I.freeC x c e)
 ·obtain ⟨e,n,ne,nf,d⟩:=I.pin p hp;have nch:p.1 ∉ ch:=fun z=>(hch p.1 z).2.2.2 p hp rfl
  exact ⟨keep p.1 p.2 ne nf nch e n,free p.1 p.2 nch e n,ne,nf,d⟩
def Inv.un(I:Inv X pins σ H s)(u:Un X.fs [] H H' s.heap h')(hok:HOk X.prog X.w H' h'):Inv X pins σ H' { s with heap:=h',toks:=t' }:=by
 obtain ⟨m,⟨o,es,ep,ho,r⟩,_⟩:=id I.loc;obtain ⟨sl,hL⟩:=u.any ho I.free (by simp)
 exact I.step (g':=s.gens) (d':=s.drawn) (ch:=[]) (fun _ z=>nomatch z) (fun b o _ hb _ e n=>u.keep b o e n hb (by simp)) (fun b o _ hb _ e n=>u.slot b o e n hb (by simp)) (fun b o _ e n=>u.free b o e n (by simp)) (fun b o _ e=>u.there b o e (by simp)) u.tups u.frzs u.tbls (fun m' hm=>by
  obtain ⟨o',es',ep',ho',r'⟩:=hm;rw [ho] at ho';cases ho'
  exact ⟨_,es',ep',hL,r'⟩) hok I.bare
def Inv.call(I:Inv X pins σ H s)(u:Un (frs X.stack) ch H H' s.heap h')(hok:HOk X.prog X.w H' h')(hg:AllBare g')
  (hch:∀b∈ch,(b∈X.ex\/X.s₀.heap.objs.size<=b)/\b≠X.env.locals/\(∀x c,X.env.cells.lookup x=some c->c≠b)/\∀p∈X.pn++pins,p.1≠b) :
  Inv X pins σ H' { s with heap:=h',gens:=g',drawn:=d',toks:=t' }:=by
 obtain ⟨m,⟨o,es,ep,ho,r⟩,_⟩:=id I.loc;obtain ⟨sl,hL⟩:=u.any ho I.free fun z=>(hch _ z).2.1 rfl
 exact I.step (ch:=ch) hch (fun b o hL hb hc e n=>u.keep b o e n (fun z=>(yaA.mp (I.stkSub b z)).elim hL hb) hc) (fun b o _ _ hc e n=>u.any e n hc) (fun b o hc e n=>u.free b o e n hc) (fun b o hc e=>u.there b o e hc) u.tups u.frzs u.tbls (fun m' hm=>by
  obtain ⟨o',es',ep',ho',r'⟩:=hm;rw [ho] at ho';cases ho'
  exact ⟨_,es',ep',hL,r'⟩) hok hg
def Inv.turned(I:Inv X pins σ H s)(k:∀b o,b≠it->s.heap.get? b=some o->h'.get? b=some o)(hn:H it=none)(hL:it≠X.env.locals)
  (h1:it∈X.ex\/X.s₀.heap.objs.size<=it) (h2:∀x c,X.env.cells.lookup x=some c->c≠it) (h3:∀p∈X.pn++pins,p.1≠it):Inv X pins σ H { s with heap:=h',toks:=t' }:=by
 have nit:∀b u,H b=some u->b≠it:=fun b u e z=>by rw [z,hn] at e;cases e
 refine I.step (g':=s.gens) (d':=s.drawn) (ch:=[it]) (fun b hb=>?_) (fun b o _ _ hc e _=>k b o (fun z=>hc (by simp [z])) e) (fun b o _ _ hc e _=>⟨o.slots,k b o (fun z=>hc (by simp [z])) e⟩) (fun _ _ _ _ n=>n)
  (fun b o hc e=>⟨o,k b o (fun z=>hc (by simp [z])) e⟩) (fun _ _ e=>e) (fun _ _ _ e=>e) (fun b ps e=>⟨#[],by rw [e];simp⟩) (fun m hm=>?_) (fun b u e=>?_) I.bare
 ·have e:b=it:=by simpa using hb
  subst e;exact ⟨h1,hL,h2,h3⟩
 ·obtain ⟨o,es,ep,ho,r⟩:=hm;exact ⟨o,es,ep,k _ o (Ne.symm hL) ho,r⟩
 ·refine (I.hok b u e).stay (fun c v hc q=>k c v ?_ q) (fun _ q=>q) fun _ _ q=>q
  rcases hc with z | z
  ·rw [z];exact nit b u e
  ·exact nit c _ z
def Inv.tok(I:Inv X pins σ H s)(t:Nat):Inv X pins σ H { s with toks:=t }:=I.un (h':=s.heap) (t':=t) Un.refl I.hok
theorem Inv.kept(I:Inv X pins σ H s)(k:∀b u,s.heap.get? b=some u->h'.get? b=some u):Inv X pins σ H { s with heap:=h',toks:=t' }:=I.un (Un.kept k) (I.hok.kept k)
theorem Inv.laid(I:Inv X pins σ H s)(k:∀b u,s.heap.get? b=some u->h'.get? b=some u)(hp:s.heap.objs.size<=a)(new:zb8 X.prog X.w (upd H a o) h' a o) :
  Inv X pins σ (upd H a o) { s with heap:=h',toks:=t' }:=I.un (Un.laid k hp (I.hok.fresh hp)) (I.hok.laid k hp new)
theorem Inv.write(I:Inv X pins σ H s)(mu:Mut (H x))(he:e=x\/H e=some (.own x))(k:∀b u,b≠e->s.heap.get? b=some u->h'.get? b=some u)(heo:∃u,h'.get? e=some u)
  (new:zb8 X.prog X.w (upd H x o) h' x o):Inv X pins σ (upd H x o) { s with heap:=h',toks:=t' }:=I.un (Un.write mu he k heo) (I.hok.write mu he k heo new)
def Inv.pins_of(I:Inv X pins σ H s)(h:∀p∈pins',s.heap.get? p.1=some p.2/\H p.1=none/\p.1≠X.env.locals/\p.1 ∉ X.fs/\∀v,p.2.data≠.cell v):Inv X pins' σ H s :=
 ⟨I.ok,I.os,I.bare,I.base,I.loc,I.cell,I.free,I.freeC,fun p hp=>(ybr.mp hp).elim (fun z=>I.pin p (List.mem_append_left _ z)) (h p),I.hok,I.len⟩
def zj2{N:List Str}(hN:N.Nodup){i j:Nat}{x:Str}(a:N[i]?=some x)(b:N[j]?=some x):i=j:=by
 obtain ⟨h1,e1⟩:=yan.mp a;obtain ⟨h2,e2⟩:=yan.mp b;exact (List.getElem_inj hN).mp (e1.trans e2.symm)
def zhV{M:Model}{A:Around}{E:Z5}{i:Nat}{x:Str}{v:V}{u:Value}{Q:Unit->Shared->Prop}(I:Inv X pins σ H s)(hN:X.N.Nodup)(hi:X.N[i]?=some x)(hx:Loc X.env.scope x)(r:zbM v u)
  (h:∀s',Inv X pins (σ.set i (some v)) H s'->(∃a,Heap.SameBut a s.heap s'.heap/\(a=X.env.locals\/X.env.cells.lookup x=some a))->Q () s') (hf:X.fn x=true\/X.env.scope.names.lookup x=some .local:=by first | exact .inl rfl | exact .inr rfl | assumption):wpAny M A (storeName X.env x u) Q E s:=by
 obtain ⟨m,hn,hl⟩:=id I.loc
 have hcls:(X.env.scope.kind == .class||(X.env.scope.kind == .module&&X.env.locals != X.env.globals))=false:=by rw [I.ok.kind];rfl
 have hiσ:i<σ.length:=by rw [I.len];exact (yan.mp hi).1
 have cne:=I.cne
 have tracked:∀{a:Addr} {h':Heap},(∃o,s.heap.get? a=some o/\H a=none)->Heap.SameBut a s.heap h'->HOk X.prog X.w H h':=fun {a h'} ha hs b ob e=>by
  obtain ⟨_,_,hfree⟩:=ha;refine (I.hok b ob e).stay (fun c w' hc q=>(hs.2 c ?_).trans q) (fun _ q=>q) fun _ _ q=>q
  rintro rfl
  rcases hc with rfl | hc
  ·rw [hfree] at e;cases e
  ·rw [hfree] at hc;cases hc
 rcases hx with hk | hk
 ·refine wpAny_storeName_local hk hn (fun h' hn' hs=>?_) hcls;obtain ⟨oL,_,_,hoL,_⟩:=id hn;refine h _ ⟨I.ok,I.os,I.bare,⟨fun b o e n hb hx=>?_,fun b o e n hb hx=>?_,I.base.free,fun b o e hx=>?_,I.base.tups,I.base.frzs,I.base.tbls⟩,⟨_,hn',fun j y v' e1 e2 e3=>?_⟩,fun y c e=>?_,I.free,I.freeC,fun p hp=>?_,tracked ⟨oL,hoL,I.free⟩ hs,by simpa using I.len⟩ ⟨_,hs,.inl rfl⟩
  ·exact (hs.2 b (yaz (yaq (yas e) I.ok.above))).trans (I.base.keep b o e n hb hx)
  ·obtain ⟨sl,e1⟩:=I.base.slot b o e n hb hx;exact ⟨sl,(hs.2 b (yaz (yaq (yas e) I.ok.above))).trans e1⟩
  ·obtain ⟨o',e1⟩:=I.base.there b o e hx;exact ⟨o',(hs.2 b (yaz (yaq (yas e) I.ok.above))).trans e1⟩
  ·by_cases hj:j=i
   ·subst hj;rw [hi] at e1;cases e1;rw [yaG hiσ] at e2;cases e2;exact ⟨u,r,.inl ⟨hk,by simp⟩⟩
   ·rw [yaQ (Ne.symm hj)] at e2;obtain ⟨u',r',q⟩:=hl j y v' e1 e2 e3;refine ⟨u',r',?_⟩
    rcases q with ⟨k,e⟩ | ⟨k,c,e,z⟩
    ·refine .inl ⟨k,?_⟩;have:y≠x:=fun e=>hj (zj2 hN e1 (e ▸ hi))
     simp [this,e]
    ·exact .inr ⟨k,c,e,z.sameBut hs (cne y c e)⟩
  ·obtain ⟨w',z⟩:=I.cell y c e;exact ⟨w',z.sameBut hs (cne y c e)⟩
  ·obtain ⟨e,n,ne,nf,d⟩:=I.pin p hp;exact ⟨(hs.2 p.1 ne).trans e,n,ne,nf,d⟩
 ·have hfn:X.fn x=true:=by
   rcases hf with z | z
   ·exact z
   ·rw [z] at hk;cases hk
  obtain ⟨c,hc⟩:=I.ok.has x (.inl hk);obtain ⟨w',z⟩:=I.cell x c hc;refine wpAny_storeName_cell I.ok.kind hk hc z (fun h' hc' hs=>?_);obtain ⟨oc,hoc,hocd⟩:=id z;refine h { s with heap:=h' } ⟨I.ok,I.os,I.bare,⟨fun b o e n hb hx=>?_,fun b o e n hb hx=>?_,I.base.free,fun b o e hx=>?_,I.base.tups,I.base.frzs,I.base.tbls⟩,⟨m,hn.sameBut hs (Ne.symm (cne x c hc)),fun j y v' e1 e2 e3=>?_⟩,fun y c' e=>?_,I.free,I.freeC,fun p hp=>?_,tracked ⟨oc,hoc,I.freeC x c hc⟩ hs,by simpa using I.len⟩ ⟨c,hs,.inr hc⟩
  ·exact (hs.2 b (yaz (yaq (yas e) (I.ok.cab x c hfn hc)))).trans (I.base.keep b o e n hb hx)
  ·obtain ⟨sl,e1⟩:=I.base.slot b o e n hb hx;exact ⟨sl,(hs.2 b (yaz (yaq (yas e) (I.ok.cab x c hfn hc)))).trans e1⟩
  ·obtain ⟨o',e1⟩:=I.base.there b o e hx;exact ⟨o',(hs.2 b (yaz (yaq (yas e) (I.ok.cab x c hfn hc)))).trans e1⟩
  ·by_cases hj:j=i
   ·subst hj;rw [hi] at e1;cases e1;rw [yaG hiσ] at e2;cases e2;exact ⟨u,r,.inr ⟨.inl hk,c,hc,hc'⟩⟩
   ·rw [yaQ (Ne.symm hj)] at e2;obtain ⟨u',r',q⟩:=hl j y v' e1 e2 e3;refine ⟨u',r',?_⟩
    rcases q with q | ⟨k,c',e,z'⟩
    ·exact .inl q
    ·refine .inr ⟨k,c',e,z'.sameBut hs ?_⟩;rintro rfl;exact hj (zj2 hN e1 (I.ok.inj _ _ _ e hc ▸ hi))
  ·by_cases hcc:c'=c
   ·subst hcc;exact ⟨_,hc'⟩
   ·obtain ⟨w2,z2⟩:=I.cell y c' e;exact ⟨w2,z2.sameBut hs hcc⟩
  ·obtain ⟨e,n,ne,nf,d⟩:=I.pin p hp;refine ⟨(hs.2 p.1 ?_).trans e,n,ne,nf,d⟩;intro q;rw [q,hoc] at e;have q':oc=p.2:=Option.some.inj e;exact d w' (by rw [<-q'];exact hocd)
def zg3{M:Model}{A:Around}{E:Z5}{i:Nat}{x:Str}{v:V}{u:Value}{Q:Unit->Shared->Prop}(I:Inv X pins σ H s)(hN:X.N.Nodup)(hi:X.N[i]?=some x)(hx:Loc X.env.scope x)(r:zbM v u)
  (h:∀s',Inv X pins (σ.set i (some v)) H s'->Q () s') (hf:X.fn x=true\/X.env.scope.names.lookup x=some .local:=by first | exact .inl rfl | exact .inr rfl | assumption):wpAny M A (storeName X.env x u) Q E s :=
 zhV I hN hi hx r (fun s' I' _=>h s' I') hf
def Inv.call'(I:Inv X pins σ H s)(ho:s'.os=s.os)(u:Un (frs X.stack) ch H H' s.heap s'.heap)(hok:HOk X.prog X.w H' s'.heap)(hg:AllBare s'.gens)
  (hch:∀b∈ch,(b∈X.ex\/X.s₀.heap.objs.size<=b)/\b≠X.env.locals/\(∀x c,X.env.cells.lookup x=some c->c≠b)/\∀p∈X.pn++pins,p.1≠b):Inv X pins σ H' s':=by
 obtain ⟨h',g',d',t',o'⟩:=s';have e:o'=s.os:=ho;subst e;exact I.call (g':=g') (t':=t') (d':=d') u hok hg hch
end
noncomputable abbrev XK:=Value->Option Addr->Hp->Prop
noncomputable abbrev St:=List (Option V)
noncomputable abbrev VK:=V->Hp->Prop
noncomputable abbrev TE:=St->Hp->VK->Prop
noncomputable abbrev TT:=St->Hp->(Bool->Hp->Prop)->Prop
noncomputable abbrev TA:=St->Hp->(List V->Hp->Prop)->Prop
structure Ends where
 nx:St->Hp->Prop
 rt:VK
 bk:St->Hp->Prop:=fun _ _=>False
 ct:St->Hp->Prop:=fun _ _=>False
noncomputable abbrev TS:=Ends->St->Hp->Prop
noncomputable def EP(X:Cx)(pins:Z3)(σ:St)(Q:VK)(u:Value)(s':Shared):Prop:=∃v H',Inv X pins σ H' s'/\zbM v u/\Q v H'
noncomputable def TP(X:Cx)(pins:Z3)(σ:St)(Q:Bool->Hp->Prop)(b:Bool)(s':Shared):Prop:=∃H',Inv X pins σ H' s'/\Q b H'
noncomputable def AP(X:Cx)(pins:Z3)(σ:St)(Q:List V->Hp->Prop)(us:List Value)(s':Shared):Prop:=∃vs H',Inv X pins σ H' s'/\Vals vs us/\Q vs H'
noncomputable def SP(X:Cx)(pins:Z3)(D:Ends)(f:Flow)(s':Shared):Prop :=
 match f with
 | .next=>∃σ' H',Inv X pins σ' H' s'/\D.nx σ' H'
 | .brk=>∃σ' H',Inv X pins σ' H' s'/\D.bk σ' H'
 | .cont=>∃σ' H',Inv X pins σ' H' s'/\D.ct σ' H'
 | .ret u=>∃v σ' H',Inv X pins σ' H' s'/\zbM v u/\D.rt v H'
noncomputable def PE(X:Cx)(e:Expr)(t:TE):Prop :=
 ∀(pins:Z3) (s:Shared) (σ:St) (H:Hp) (Q:VK),Inv X pins σ H s->t σ H Q->wpAny (model X.prog X.w) X.A (eval e X.env) (EP X pins σ Q) X.xe s
noncomputable def PT(X:Cx)(e:Expr)(t:TT):Prop :=
 ∀(pins:Z3) (s:Shared) (σ:St) (H:Hp) (Q:Bool->Hp->Prop),Inv X pins σ H s->t σ H Q->wpAny (model X.prog X.w) X.A (isTrue e X.env (eval e X.env)) (TP X pins σ Q) X.xe s
noncomputable def PW(X:Cx)(e:Expr)(t:TT):Prop :=
 ∀(whole:Sem Value) (pins:Z3) (s:Shared) (σ:St) (H:Hp) (Q:Bool->Hp->Prop),Inv X pins σ H s->t σ H Q->wpAny (model X.prog X.w) X.A (isTrue e X.env whole) (TP X pins σ Q) X.xe s
def PW.pt(h:PW X e t):PT X e t:=h _
noncomputable def PA(X:Cx)(es:List Expr)(t:TA):Prop :=
 ∀(pos:Pos) (pins:Z3) (s:Shared) (σ:St) (H:Hp) (Q:List V->Hp->Prop),Inv X pins σ H s->t σ H Q->wpAny (model X.prog X.w) X.A (spliced (backTo pos (starEach es X.env))) (AP X pins σ Q) X.xe s
noncomputable def PS(X:Cx)(st:Stmt)(t:TS):Prop :=
 ∀(pins:Z3) (s:Shared) (σ:St) (H:Hp) (D:Ends),Inv X pins σ H s->t D σ H->wpAny (model X.prog X.w) X.A (exec st X.env) (SP X pins D) X.xe s
noncomputable def PSs(X:Cx)(st:List Stmt)(t:TS):Prop :=
 ∀(pins:Z3) (s:Shared) (σ:St) (H:Hp) (D:Ends),Inv X pins σ H s->t D σ H->wpAny (model X.prog X.w) X.A (execs st X.env) (SP X pins D) X.xe s
def thn{α:Type}{t:Sem α}{Q Q':α->Shared->Prop}(h:wpAny M A t Q E s)(hQ:∀a s,Q a s->Q' a s):wpAny M A t Q' E s:=ybE h hQ fun _ _ x=>x
section
variable{X:Cx}
noncomputable def zzs(i:Nat):TE:=fun σ H Q=>∃v,σ[i]?=some (some v)/\Q v H
noncomputable def tC(v:V):TE:=fun _ H Q=>Q v H
def zdn{i:Nat}{x:Str}{pos:Pos}(hN:X.N[i]?=some x)(hv:Vis X.env.scope x)(hd:(x == ("__debug__":Str))=false:=by decide)(hcd:(x == ("__classdict__":Str))=false:=by decide):PE X (.Name x pos) (zzs i):=by
 intro pins s σ H Q I h;obtain ⟨v,e,h⟩:=h;obtain ⟨m,hn,hl⟩:=I.loc;obtain ⟨u,r,l⟩:=hl i x v hN e hv;have fin:EP X pins σ Q u s:=⟨v,H,I,r,h⟩
 rcases l with ⟨hk,hm⟩ | ⟨hk,c,hc,hcell⟩
 ·exact wpAny_Name (wpAny_loadName_local I.ok.kind hk hn hm fin) hd
 ·rcases hk with hk | hk
  ·exact wpAny_Name (wpAny_loadName_cell I.ok.kind hk hc hcell fin) hd
  ·exact wpAny_Name (wpAny_loadName_free I.ok.kind hk hc hcell fin hcd) hd
def zte{i j pos}:PE X (.Constant (.int i) j pos) (tC (.int i)):=fun _ _ _ H _ I h=>wpAny_Constant_int ⟨.int i,H,I.tok _,⟨_,rfl⟩,h⟩
def zvS{b j pos}:PE X (.Constant (.bool b) j pos) (tC (.bl b)):=fun _ _ _ H _ I h=>Constant_bool ⟨.bl b,H,I,rfl,h⟩
def ztc{j pos}:PE X (.Constant .none j pos) (tC .non):=fun _ _ _ H _ I h=>Constant_none ⟨.non,H,I,rfl,h⟩
def zs8{x j pos}:PE X (.Constant (.str x) j pos) (tC (.str x)):=fun _ _ _ H _ I h=>Calls.Constant_str ⟨.str x,H,I.tok _,⟨_,rfl⟩,h⟩
noncomputable def Gl(X:Cx)(x:Str):Prop:=X.env.kindOf x=some .globalImplicit
def zfS{E:Z5}{pins:Z3}{s:Shared}{σ:St}{H:Hp}{x:Str}{u:Value}{pos:Pos}{Q:Z5}(I:Inv X pins σ H s)(hg:Gl X x)(hm:X.mg x=some u)(h:Q u s)
  (hd:(x == ("__debug__":Str))=false:=by decide):wpAny (model X.prog X.w) X.A (eval (.Name x pos) X.env) Q E s :=
 Calls.Name_function_global I.ok.kind hg (Calls.loadGlobal_global (by rw [I.ok.glob];exact I.mod.glob.keeps I.bk) hm h) hd
def zfT{E:Z5}{pins:Z3}{s:Shared}{σ:St}{H:Hp}{x:Str}{u:Value}{pos:Pos}{Q:Z5}(I:Inv X pins σ H s)(hg:Gl X x)(hm:X.mg x=none)(hv:bootBuiltins x=some u)(h:Q u s)
  (hn:x ≠ "__name__":=by decide) (hd:(x == ("__debug__":Str))=false:=by decide):wpAny (model X.prog X.w) X.A (eval (.Name x pos) X.env) Q E s:=by
 obtain ⟨mb,h1,h2⟩:=I.mod.blt;exact Calls.Name_function_global I.ok.kind hg (Calls.loadGlobal_builtin (by rw [I.ok.glob];exact I.mod.glob.keeps I.bk) hm (by rw [I.ok.blt];exact h1.keeps I.bk) ((h2 x hn).trans hv) h) hd
def zqE{x:Str}{v:V}{u:Value}{pos:Pos}(hg:Gl X x)(hm:X.mg x=some u)(r:zbM v u)(hd:(x == ("__debug__":Str))=false:=by decide):PE X (.Name x pos) (tC v) :=
 fun _ _ _ H _ I h=>zfS I hg hm ⟨v,H,I,r,h⟩ hd
def zqH{x:Str}{v:V}{u:Value}{pos:Pos}(hg:Gl X x)(hm:X.mg x=none)(hv:bootBuiltins x=some u)(r:zbM v u)(hn:x ≠ "__name__":=by decide)(hd:(x == ("__debug__":Str))=false:=by decide):PE X (.Name x pos) (tC v) :=
 fun _ _ _ H _ I h=>zfT I hg hm hv ⟨v,H,I,r,h⟩ hn hd
variable{a b:Expr}{ta tb:TE}{pos:Pos}
noncomputable def tB(t:TE):TT:=fun σ H Q=>t σ H fun x H1=>∃c,x=.bl c/\Q c H1
def zs2{e:Expr}{t:TE}(h:PE X e t)(he:∀whole,isTrue e X.env whole=(do let v ← whole;standAt e.pos;holding [v] (truthy v)):=by intro _;rfl):PT X e (tB t):=by
 intro pins s σ H Q I hw;refine isTrue_plain (thn (h pins s σ H _ I hw) fun v s1 ⟨x,H1,I1,r1,q1⟩=>?_) (he _);obtain ⟨d,rfl,q⟩:=q1;cases r1;exact ybg ⟨H1,I1,q⟩
variable{tA tB':TT}{zcj:List Expr}
noncomputable def zxJ(t u:TT):TT:=fun σ H Q=>t σ H fun c H1=>if c=true then u σ H1 Q else Q false H1
noncomputable def tOr(t u:TT):TT:=fun σ H Q=>t σ H fun c H1=>if c=true then Q true H1 else u σ H1 Q
noncomputable def zxH(t:TT):TT:=fun σ H Q=>t σ H fun c H1=>Q (!c) H1
def zqu(ha:PT X a tA):PW X (.BoolOp .And [a] pos) tA:=by
 intro wh pins s σ H Q I h;refine isTrue_and (thn (ha pins s σ H Q I h) fun c s1 e=>?_)
 cases c with
 | true=>exact isTrue_and_nil e
 | false=>exact e
def zsZ(ha:PT X a tA):PW X (.BoolOp .Or [a] pos) tA:=by
 intro wh pins s σ H Q I h;refine isTrue_or (thn (ha pins s σ H Q I h) fun c s1 e=>?_)
 cases c with
 | false=>exact isTrue_or_nil e
 | true=>exact e
def zs0(ha:PT X a tA)(hb:PW X (.BoolOp .And (b::zcj) pos) tB'):PW X (.BoolOp .And (a::b::zcj) pos) (zxJ tA tB'):=by
 intro wh pins s σ H Q I h;refine isTrue_and (thn (ha pins s σ H _ I h) fun c s1 ⟨H1,I1,q1⟩=>?_)
 cases c with
 | true=>exact hb wh pins s1 σ H1 Q I1 q1
 | false=>exact ⟨H1,I1,q1⟩
def zvL(ha:PT X a tA)(hb:PW X (.BoolOp .Or (b::zcj) pos) tB'):PW X (.BoolOp .Or (a::b::zcj) pos) (tOr tA tB'):=by
 intro wh pins s σ H Q I h;refine isTrue_or (thn (ha pins s σ H _ I h) fun c s1 ⟨H1,I1,q1⟩=>?_)
 cases c with
 | true=>exact ⟨H1,I1,q1⟩
 | false=>exact hb wh pins s1 σ H1 Q I1 q1
def zs3(ha:PT X a tA):PT X (.UnaryOp .Not a pos) (zxH tA):=by
 intro pins s σ H Q I h;exact isTrue_not (ha pins s σ H (fun c H1=>Q (!c) H1) I h)
noncomputable def zvv(ta tb:TE):TE:=fun σ H Q=>ta σ H fun x H1=>∃c,x=.bl c/\if c=true then tb σ H1 Q else Q (.bl false) H1
noncomputable def zzx(ta tb:TE):TE:=fun σ H Q=>ta σ H fun x H1=>∃c,x=.bl c/\if c=true then Q (.bl true) H1 else tb σ H1 Q
noncomputable def zvm(ta:TE):TE:=fun σ H Q=>ta σ H fun x H1=>∃c,x=.bl c/\Q (.bl (!c)) H1
def zta{op}(h:PE X a t):PE X (.BoolOp op [a] pos) t:=fun pins s σ H Q I hw=>BoolOp_one (h pins s σ H Q I hw)
def ztg(ha:PE X a ta)(hb:PE X (.BoolOp .And (b::zcj) pos) tb):PE X (.BoolOp .And (a::b::zcj) pos) (zvv ta tb):=by
 intro pins s σ H Q I h;refine BoolOp_and (thn (ha pins s σ H _ I h) fun v s1 ⟨x,H1,I1,r1,q1⟩=>?_);obtain ⟨c,rfl,q1⟩:=q1;cases r1;refine ybg ?_
 cases c with
 | true=>exact hb pins s1 σ H1 Q I1 q1
 | false=>exact ⟨.bl false,H1,I1,rfl,q1⟩
def zvQ(ha:PE X a ta)(hb:PE X (.BoolOp .Or (b::zcj) pos) tb):PE X (.BoolOp .Or (a::b::zcj) pos) (zzx ta tb):=by
 intro pins s σ H Q I h;refine BoolOp_or (thn (ha pins s σ H _ I h) fun v s1 ⟨x,H1,I1,r1,q1⟩=>?_);obtain ⟨c,rfl,q1⟩:=q1;cases r1;refine ybg ?_
 cases c with
 | false=>exact hb pins s1 σ H1 Q I1 q1
 | true=>exact ⟨.bl true,H1,I1,rfl,q1⟩
def ztb(ha:PE X a ta):PE X (.UnaryOp .Not a pos) (zvm ta):=by
 intro pins s σ H Q I h;refine UnaryOp_ (thn (ha pins s σ H _ I h) fun v s1 ⟨x,H1,I1,r1,q1⟩=>?_);obtain ⟨c,rfl,q1⟩:=q1;cases r1;exact not_of (ybg ⟨.bl (!c),H1,I1,rfl,q1⟩)
noncomputable def tIf(t:TT)(ta tb:TE):TE:=fun σ H Q=>t σ H fun c H1=>if c=true then ta σ H1 Q else tb σ H1 Q
def zoc(hc:PT X c tA)(ha:PE X a ta)(hb:PE X b tb):PE X (.IfExp c a b pos) (tIf tA ta tb):=by
 intro pins s σ H Q I h;refine wpAny_IfExp (thn (hc pins s σ H _ I h) fun d s1 ⟨H1,I1,q1⟩=>?_)
 cases d with
 | true=>exact ha pins s1 σ H1 Q I1 q1
 | false=>exact hb pins s1 σ H1 Q I1 q1
end
noncomputable def SqL(K:PySem.W.Frag)(H:Hp)(a:Addr)(xs:List V):Prop :=
 Rd H a (.lst xs) ∨
  ∃(o:Obj) (its:Array Value) (n:Nat),K.lookup a=some o/\o.cls=.type "list" /\ o.dict=none/\o.data=.seq its n/\its.size<=sizeLine/\Vals xs its.toList
noncomputable def SqT(K:PySem.W.Frag)(H:Hp)(a:Addr)(xs:List V):Prop :=
 Rd H a (.tup xs) ∨
  ∃(o:Obj) (its:Array Value) (n:Nat),K.lookup a=some o/\o.cls=.type "tuple" /\ o.data=.seq its n/\its.size<=sizeLine/\Vals xs its.toList
noncomputable def zAC:Value->Option V
 | .none=>some .non
 | .bool b=>some (.bl b)
 | .int i _=>some (.int i)
 | .str x _=>some (.str x)
 | .bytes b _=>some (.byt b)
 | .float b _=>some (.flt b)
 | .ref a=>some (.ref a)
 | .type n=>some (.ty n)
 | _=>none
def zbM.abs(r:zbM x u):zAC u=some x:=by
 cases x with
 | non=>cases r;rfl
 | bl _=>cases r;rfl
 | int _=>obtain ⟨t,rfl⟩:=r;rfl
 | str _=>obtain ⟨t,rfl⟩:=r;rfl
 | byt _=>obtain ⟨t,rfl⟩:=r;rfl
 | flt _=>obtain ⟨t,rfl⟩:=r;rfl
 | ref _=>cases r;rfl
 | ty _=>cases r;rfl
theorem zbM.inj(r:zbM x u)(q:zbM y u):x=y:=Option.some.inj (r.abs.symm.trans q.abs)
theorem Vals.inj:∀{xs ys:List V} {us:List Value},Vals xs us->Vals ys us->xs=ys
 | _,_,_,.nil,.nil=>rfl
 | _,_,_,.cons r t,.cons r' t'=>by rw [r.inj r',Vals.inj t t']
section
variable{X:Cx}{pins:Z3}{σ:St}{H:Hp}{s:Shared}{a:Addr}{xs ys:List V}
def SqL.of{K:PySem.W.Frag}(h:H a=some (.lst xs)):SqL K H a xs:=.inl (.inl h)
def SqT.of{K:PySem.W.Frag}(h:H a=some (.tup xs)):SqT K H a xs:=.inl (.inl h)
theorem Inv.list(I:Inv X pins σ H s)(h:SqL X.K H a xs):∃its:List Value,Vals xs its/\PlainL s.heap a its.toArray/\xs.length<=sizeLine:=by
 rcases h with h | ⟨o,its,n,hk,hc,hd,hs,hz,r⟩
 ·obtain ⟨z,its,n,r,e⟩:=h.ok I.hok;exact ⟨its,r,⟨_,n,e,rfl,rfl,rfl⟩,z⟩
 ·refine ⟨its.toList,r,⟨o,n,I.kIn a o hk,hc,hd,by simpa using hs⟩,?_⟩;have e:=r.length;simp only [ycI] at e;omega
def Inv.tuple(I:Inv X pins σ H s)(h:SqT X.K H a xs):∃its:List Value,Vals xs its/\IsTup s.heap a its.toArray/\xs.length<=sizeLine:=by
 rcases h with h | ⟨o,its,n,hk,hc,hs,hz,r⟩
 ·obtain ⟨z,its,r,p⟩:=h.ok I.hok;exact ⟨its,r,p.t,z⟩
 ·refine ⟨its.toList,r,⟨o,I.kIn a o hk,hc,n,by simpa using hs⟩,?_⟩;have e:=r.length;simp only [ycI] at e;omega
def Inv.list_inj(I:Inv X pins σ H s)(h:SqL X.K H a xs)(h':SqL X.K H a ys):xs=ys:=by
 obtain ⟨its,r,⟨o,n,e,_,_,d⟩,_⟩:=I.list h;obtain ⟨its',r',⟨o',n',e',_,_,d'⟩,_⟩:=I.list h';rw [e] at e';cases e';rw [d] at d'
 injection d' with d1 _
 have:its=its':=by simpa using congrArg Array.toList d1
 subst this;exact r.inj r'
def Inv.tuple_inj(I:Inv X pins σ H s)(h:SqT X.K H a xs)(h':SqT X.K H a ys):xs=ys:=by
 obtain ⟨its,r,⟨o,e,_,n,d⟩,_⟩:=I.tuple h;obtain ⟨its',r',⟨o',e',_,n',d'⟩,_⟩:=I.tuple h';rw [e] at e';cases e';rw [d] at d'
 injection d' with d1 _
 have:its=its':=by simpa using congrArg Array.toList d1
 subst this;exact r.inj r'
end
section
variable{X:Cx}{st:Stmt}{zcj:List Stmt}{t u:TS}{e:Expr}{te:TE}{pos:Pos}
noncomputable def zsf:TS:=fun D σ H=>D.nx σ H
noncomputable def zzu(t u:TS):TS:=fun D σ H=>t { D with nx:=u D } σ H
def zqv:PSs X [] zsf:=fun _ _ σ H _ I h=>ycJ ⟨σ,H,I,h⟩
def zn2(h1:PS X st t)(h2:PSs X zcj u):PSs X (st::zcj) (zzu t u):=by
 intro pins s σ H D I h;refine wpAny_execs_cons (thn (h1 pins s σ H { D with nx:=u D } I h) fun f s1 q=>?_)
 cases f with
 | next =>
  obtain ⟨σ',H',I',q⟩:=q;exact h2 pins s1 σ' H' D I' q
 | ret v=>exact q
 | brk=>exact q
 | cont=>exact q
def zvN(h1:PS X st t):PSs X [st] t:=by
 intro pins s σ H D I h;refine wpAny_execs_cons (thn (h1 pins s σ H D I h) fun f s1 q=>?_)
 cases f with
 | next=>exact ycJ q
 | ret v=>exact q
 | brk=>exact q
 | cont=>exact q
noncomputable def zsj:TS:=fun D σ H=>D.bk σ H
def zqx:PS X (.Pass pos) zsf:=fun _ _ σ H _ I h=>wpAny_Pass ⟨σ,H,I,h⟩
def zn5:PS X (.Break pos) zsj:=fun _ _ σ H _ I h=>wpAny_Break ⟨σ,H,I,h⟩
def Inv.quiet(I:Inv X pins σ H s):interactive X.env=false:=by simp [interactive,I.ok.kind]
noncomputable def zvr(te:TE):TS:=fun D σ H=>te σ H fun _ H1=>D.nx σ H1
def zjc(he:PE X e te)(hs:swapsWith e none pos.line X.env=pure false:=by rfl):PS X (.Expr e pos) (zvr te):=by
 intro pins s σ H D I h;exact wpAny_Expr_any (thn (he pins s σ H _ I h) fun v s1 ⟨x,H1,I1,r1,q1⟩=>⟨σ,H1,I1,q1⟩) I.quiet hs
noncomputable def zzw(te:TE):TS:=fun D σ H=>te σ H D.rt
def zl3(he:PE X e te):PS X (.Return (some e) pos) (zzw te):=by
 intro pins s σ H D I h;exact wpAny_Return_some (thn (he pins s σ H _ I h) fun v s1 ⟨x,H1,I1,r1,q1⟩=>⟨x,σ,H1,I1,r1,q1⟩)
noncomputable def zvl:TS:=fun D _ H=>D.rt .non H
def zqw:PS X (.Return none pos) zvl:=fun _ _ σ H _ I h=>wpAny_Return_none ⟨.non,σ,H,I,rfl,h⟩
noncomputable def zzz(c:TT)(t u:TS):TS:=fun D σ H=>c σ H fun b H1=>if b=true then t D σ H1 else u D σ H1
def zvO(hc:PT X c tc)(ha:PSs X a t)(hb:PSs X b u):PS X (.If c a b pos) (zzz tc t u):=by
 intro pins s σ H D I h;refine wpAny_If (thn (hc pins s σ H _ I h) fun d s1 ⟨H1,I1,q1⟩=>?_)
 cases d with
 | true=>exact ha pins s1 σ H1 D I1 q1
 | false=>exact hb pins s1 σ H1 D I1 q1
end
noncomputable abbrev TG:=V->St->Hp->(St->Hp->Prop)->Prop
noncomputable abbrev TGs:=List V->St->Hp->(St->Hp->Prop)->Prop
noncomputable def PG(X:Cx)(target:Expr)(t:TG):Prop :=
 ∀(pins:Z3) (s:Shared) (σ:St) (H:Hp) (v:V) (u:Value) (Q:St->Hp->Prop),Inv X pins σ H s->zbM v u->t v σ H Q →
  wpAny (model X.prog X.w) X.A (assign target X.env u) (fun _ s'=>∃σ' H',Inv X pins σ' H' s'/\Q σ' H') X.xe s
noncomputable def PGs(X:Cx)(ts:List Expr)(t:TGs):Prop :=
 ∀(pins:Z3) (s:Shared) (σ:St) (H:Hp) (vs:List V) (us:List Value) (Q:St->Hp->Prop),Inv X pins σ H s->Vals vs us->t vs σ H Q →
  wpAny (model X.prog X.w) X.A (assignInOrder ((assignEach ts X.env).map (·.2)) us) (fun _ s'=>∃σ' H',Inv X pins σ' H' s'/\Q σ' H') X.xe s
noncomputable abbrev TSet:=V->V->V->Hp->(Hp->Prop)->Prop
noncomputable def zwU(X:Cx)(t:TSet):Prop :=
 ∀(pins:Z3) (s:Shared) (σ:St) (H:Hp) (o i v:V) (ov iv u:Value) (Q:Hp->Prop),Inv X pins σ H s->zbM o ov->zbM i iv->zbM v u->t o i v H Q →
  wpAny (model X.prog X.w) X.A (setItem ov iv u) (fun _ s'=>∃H',Inv X pins σ H' s'/\Q H') X.xe s
noncomputable abbrev TIp:=V->V->Hp->VK->Prop
noncomputable def PIp(X:Cx)(op:Operator)(t:TIp):Prop :=
 ∀(pins:Z3) (s:Shared) (σ:St) (H:Hp) (x y:V) (v u:Value) (Q:VK),Inv X pins σ H s->zbM x v->zbM y u->t x y H Q →
  wpAny (model X.prog X.w) X.A (inplaceOp op v u) (EP X pins σ Q) X.xe s
section
variable{X:Cx}{pos:Pos}
noncomputable def zmR(i:Nat):TG:=fun v σ H Q=>Q (σ.set i (some v)) H
def zhh{i:Nat}{x:Str}(hN:X.N.Nodup)(hi:X.N[i]?=some x)(hx:Loc X.env.scope x)(hf:X.fn x=true\/X.env.scope.names.lookup x=some .local:=by first | exact .inl rfl | exact .inr rfl | assumption):PG X (.Name x pos) (zmR i):=by
 intro pins s σ H v u Q I r h;exact wpAny_assign_Name (zg3 I hN hi hx r (fun s' I'=>⟨_,H,I',h⟩) hf)
noncomputable def zAv:TGs:=fun vs σ H Q=>vs=[]/\Q σ H
noncomputable def zwt(t:TG)(u:TGs):TGs:=fun vs σ H Q=>∃v r,vs=v::r/\t v σ H fun σ' H'=>u r σ' H' Q
def zl8:PGs X [] zAv:=by
 intro pins s σ H vs us Q I r h;obtain ⟨e,h⟩:=h;subst e;cases r;exact assignInOrder_nil ⟨σ,H,I,h⟩
def zhg{e:Expr}{es:List Expr}{t:TG}{u:TGs}(h1:PG X e t)(h2:PGs X es u)
  (hs:(assignEach (e::es) X.env).map (·.2)=assign e X.env::(assignEach es X.env).map (·.2):=by rfl):PGs X (e::es) (zwt t u):=by
 intro pins s σ H vs us Q I r h;obtain ⟨v,vr,e1,h⟩:=h;subst e1
 cases r with
 | cons r rr =>
  rw [hs];refine assignInOrder_cons (thn (h1 pins s σ H _ _ _ I r h) fun _ s1 ⟨σ1,H1,I1,q1⟩=>?_);exact h2 pins s1 σ1 H1 _ _ Q I1 rr q1
noncomputable def zAt(K:PySem.W.Frag)(n:Nat)(t:TGs):TG:=fun v σ H Q=>∃a xs,v=.ref a/\SqT K H a xs/\xs.length=n/\t xs σ H Q
def zpq{es:List Expr}{k:Nat}{t:TGs}{n:Nat}(hc:X.calm=true)(h:PGs X es t)
  (hn:(assignEach es X.env).length=n:=by rfl) (hst:(assignEach es X.env).findIdx? (·.1)=none:=by rfl):PG X (.Tuple es k pos) (zAt X.K n t):=by
 intro pins s σ H v u Q I r hw;obtain ⟨a,xs,e1,hq,hl,hw⟩:=hw;subst e1;cases r;obtain ⟨its,rv,ht,hz⟩:=I.tuple hq;refine assign_Tuple_tuple (I.ok.hd hc) ht (by simp [hn,<-hl,rv.length]) hst fun h' hx=>?_
 have I1:Inv X pins σ H { s with heap:=h' }:=I.kept (t':=s.toks) fun b o e=>hx b o (yaz (yas e)) e
 exact h pins _ σ H xs _ Q I1 (by simpa using rv) hw
noncomputable def zAu(to ti:TE)(t:TSet):TG:=fun v σ H Q=>to σ H fun o H1=>ti σ H1 fun i H2=>t o i v H2 fun H3=>Q σ H3
def zpr{o i:Expr}{to ti:TE}{t:TSet}(ho:PE X o to)(hi:PE X i ti)(hs:zwU X t)
  (ha:∀v,assign (.Subscript o i pos) X.env v=(do
   let ov ← holding [v] (eval o X.env)
   let iv ← holding [v,ov] (eval i X.env)
   standAt pos
   holding [v,ov,iv] (setItem ov iv v)
   release [v,ov,iv] []):=by intro _;rfl):PG X (.Subscript o i pos) (zAu to ti t):=by
 intro pins s σ H v u Q I r h;rw [ha];refine yad (ycb (thn (ho pins s σ H _ I h) fun ov s1 ⟨x,H1,I1,r1,q1⟩=>?_));refine yad (ycb (thn (hi pins s1 σ H1 _ I1 q1) fun iv s2 ⟨y,H2,I2,r2,q2⟩=>?_));refine yad (wpAny_standAt (yad (ycb (thn (hs pins s2 σ H2 x y v ov iv u _ I2 r1 r2 r q2) fun _ s3 ⟨H3,I3,q3⟩=>?_))));exact wpAny_release ⟨σ,H3,I3,q3⟩
noncomputable def zrY(te:TE)(g:TG):TS:=fun D σ H=>te σ H fun x H1=>g x σ H1 D.nx
def zjU{tg e:Expr}{te:TE}{g:TG}(he:PE X e te)(hg:PG X tg g)(hs:swapsWithSole [tg] e pos.line X.env=pure false:=by rfl)(hw:swappedStores [tg] e X.env=pure none:=by rfl)
  (h1:(assignEach [tg] X.env).map (·.2)=[assign tg X.env]:=by rfl):PS X (.Assign [tg] e pos) (zrY te g):=by
 intro pins s σ H D I h;refine wpAny_Assign_stores (thn (he pins s σ H _ I h) fun v s1 ⟨x,H1,I1,r1,q1⟩=>?_) hs hw;rw [h1];exact thn (hg pins s1 σ H1 x v _ I1 r1 q1) fun _ s2 q=>q
def zpn{i:Nat}{x:Str}{e:Expr}{te:TE}{pos':Pos}(hN:X.N.Nodup)(hi:X.N[i]?=some x)(hx:Loc X.env.scope x)(he:PE X e te)(hs:swapsWith e (some (.Name x pos')) pos.line X.env=pure false:=by rfl)(hf:X.fn x=true\/X.env.scope.names.lookup x=some .local:=by first | exact .inl rfl | exact .inr rfl | assumption) :
  PS X (.Assign [.Name x pos'] e pos) (zrY te (zmR i)):=by
 intro pins s σ H D I h;refine wpAny_Assign_Name (thn (he pins s σ H _ I h) fun v s1 ⟨y,H1,I1,r1,q1⟩=>?_) hs;exact zg3 I1 hN hi hx r1 (fun s2 I2=>⟨_,H1,I2,q1⟩) hf
noncomputable def zzC(i:Nat)(te:TE)(ti:TIp):TS:=fun D σ H=>∃x,σ[i]?=some (some x)/\te σ H fun y H1=>ti x y H1 fun z H2=>D.nx (σ.set i (some z)) H2
def zs5{i:Nat}{x:Str}{e:Expr}{te:TE}{op:Operator}{ti:TIp}{pos':Pos}(hN:X.N.Nodup)(hi:X.N[i]?=some x)(hx:Loc X.env.scope x)(he:PE X e te)(ho:PIp X op ti)(hf:X.fn x=true\/X.env.scope.names.lookup x=some .local:=by first | exact .inl rfl | exact .inr rfl | assumption) :
  PS X (.AugAssign (.Name x pos') op e pos) (zzC i te ti):=by
 intro pins s σ H D I h;obtain ⟨v,e1,h⟩:=h;obtain ⟨m,hn,hl⟩:=I.loc
 have vis:Vis X.env.scope x:=by rcases hx with k | k;exact .inl k;exact .inr (.inl k)
 obtain ⟨u,r,l⟩:=hl i x v hi e1 vis;refine wpAny_AugAssign_Name ?_
 have go:wpAny (model X.prog X.w) X.A (eval e X.env) (fun w s₂=>wpAny (model X.prog X.w) X.A (inplaceOp op u w) (fun r s₃=>wpAny (model X.prog X.w) X.A (storeName X.env x r) (fun _=>SP X pins D .next) X.xe s₃) X.xe s₂) X.xe s:=by
  refine thn (he pins s σ H _ I h) fun w s1 ⟨y,H1,I1,r1,q1⟩=>?_
  refine thn (ho pins s1 σ H1 v y u w _ I1 r r1 q1) fun z s2 ⟨zv,H2,I2,r2,q2⟩=>?_
  exact zg3 I2 hN hi hx r2 (fun s3 I3=>⟨_,H2,I3,q2⟩) hf
 rcases l with ⟨hk,hm⟩ | ⟨hk,c,hc,hcell⟩
 ·exact wpAny_loadName_local I.ok.kind hk hn hm go
 ·rcases hk with hk | hk
  ·exact wpAny_loadName_cell I.ok.kind hk hc hcell go
  ·rcases hx with k | k
   ·have:X.env.scope.names.lookup x=some .free:=hk;rw [k] at this;cases this
   ·have:X.env.scope.names.lookup x=some .free:=hk;rw [k] at this;cases this
end
section
variable{X:Cx}{pos:Pos}
noncomputable def zsc(c:TT)(tb:TS):TS:=fun D σ H=>∃W:Nat->St->Hp->Prop,(∃m,W m σ H)/\∀m σ H,W m σ H →
 c σ H fun b H1=>if b=true then ∃N:St->Hp->Prop,(∀σ' H',N σ' H'->∃m',m'<m/\W m' σ' H')/\tb { D with nx:=N,ct:=N,bk:=D.nx } σ H1 else D.nx σ H1
def zn3(hp:PassesOwn (model X.prog X.w) X.A X.env X.xe)(hc:PT X c tc)(hb:PSs X body tb):PS X (.While c body [] pos) (zsc tc tb):=by
 intro pins s σ H D I h;obtain ⟨W,⟨m0,w0⟩,turn⟩:=h;refine wpAny_While (codeAny_whileLoop (fun n s'=>∃σ' H',Inv X pins σ' H' s'/\W n σ' H') ?_ m0 ⟨σ,H,I,w0⟩);rintro n s1 ⟨σ1,H1,I1,w1⟩;refine ybM hp (thn (hc pins s1 σ1 H1 _ I1 (turn n σ1 H1 w1)) fun b s2 ⟨H2,I2,q2⟩=>?_)
 cases b with
 | true =>
  obtain ⟨N,hN,q2⟩:=q2;rw [if_pos rfl];refine ybM hp (thn (hb pins s2 σ1 H2 _ I2 q2) fun f s3 q3=>?_)
  cases f with
  | next =>
   obtain ⟨σ3,H3,I3,n3⟩:=q3;obtain ⟨m',hm,w3⟩:=hN σ3 H3 n3;exact ⟨m',hm,σ3,H3,I3,w3⟩
  | cont =>
   obtain ⟨σ3,H3,I3,n3⟩:=q3;obtain ⟨m',hm,w3⟩:=hN σ3 H3 n3;exact ⟨m',hm,σ3,H3,I3,w3⟩
  | brk=>exact q3
  | ret v=>exact q3
 | false =>
  rw [if_neg yba];exact ycJ ⟨σ1,H2,I2,q2⟩
end
structure It where
 go:Nat->Hp->Prop
 yld:Nat->Hp->V->Hp->Prop
 stop:Nat->Hp->Prop
noncomputable def znv(X:Cx)(pins:Z3)(H:Hp)(b:Addr):Prop :=
 H b=none/\b≠X.env.locals/\b ∉ X.fs/\(b∈X.ex\/X.s₀.heap.objs.size<=b)/\(∀x c,X.env.cells.lookup x=some c->c≠b)/\∀p∈X.pn++pins,p.1≠b
def Inv.fpOk(I:Inv X pins σ H s)(hb:s.heap.objs.size<=b)(hn:H' b=none):znv X pins H' b:=by
 refine ⟨hn,ya3 (yaq I.lt hb),I.nofs hb,.inr (yak I.sz hb),fun x c e z=>?_,fun p hp z=>?_⟩
 ·obtain ⟨v,q⟩:=I.cell x c e;exact absurd (yaq q.lt (by rw [z];exact hb)) (ya2 _)
 ·exact absurd (yaq (yas (I.pin p hp).1) (by rw [z];exact hb)) (ya2 _)
structure Turn(P:Program)(w:World)(K:PySem.W.Frag)(tg:Expr)(J:It)(fp:List Addr)(it:Addr)(tn:Nat->Heap->Prop):Prop where
 mem:it∈fp
 obj:∀i h,tn i h->∀b∈fp,∃o,h.get? b=some o/\∀v,o.data≠.cell v
 keep:∀i h h',tn i h->(∀b∈fp,∀o,h.get? b=some o->h'.get? b=some o)->tn i h'
 item:∀(X:Cx),X.prog=P->X.w=w->X.K=K->X.calm=true->∀(i:Nat) (pins:Z3) (s:Shared) (σ:St) (H:Hp) (E:Z5),Inv X pins σ H s->(∀b∈fp,znv X pins H b)->tn i s.heap->J.go i H →
  wpAny (model P w) X.A (pyNext (.ref it)) (fun r s1=>∃u,r=some u ∧
   wpAny (model P w) X.A (letOwnedTupleGo tg (.ref it) u) (fun _ s2=>∃x H',Inv X pins σ H' s2/\zbM x u/\J.yld i H x H'/\tn (i+1) s2.heap/\∀b∈fp,H' b=none) E s1) E s
 done:∀(X:Cx),X.prog=P->X.w=w->X.K=K->X.calm=true->∀(i:Nat) (pins:Z3) (s:Shared) (σ:St) (H:Hp) (E:Z5),Inv X pins σ H s->(∀b∈fp,znv X pins H b)->tn i s.heap->J.stop i H →
  wpAny (model P w) X.A (pyNext (.ref it)) (fun r s1=>r=none/\Inv X pins σ H s1) E s
 self:∀(A:Around) (i:Nat) (s:Shared) (Q:Z5) (E:Z5),tn i s.heap->Q (.ref it) s->wpAny (model P w) A (pyIter (.ref it)) Q E s
noncomputable abbrev TI:=St->Hp->(It->Hp->Prop)->Prop
noncomputable def PIE(X:Cx)(pins:Z3)(σ:St)(tg:Expr)(R:It->Hp->Prop)(itv:Value)(s2:Shared):Prop :=
 ∃(it:Addr) (fp:List Addr) (tn:Nat->Heap->Prop) (J:It) (H':Hp),itv=.ref it/\Inv X pins σ H' s2/\Turn X.prog X.w X.K tg J fp it tn/\tn 0 s2.heap/\(∀b∈fp,znv X pins H' b)/\R J H'
noncomputable def PI(X:Cx)(tg iter:Expr)(wi:TI):Prop :=
 ∀(pins:Z3) (s:Shared) (σ:St) (H:Hp) (R:It->Hp->Prop),Inv X pins σ H s->wi σ H R →
  wpAny (model X.prog X.w) X.A (eval iter X.env) (fun v s1=>wpAny (model X.prog X.w) X.A (pyIter v) (PIE X pins σ tg R) X.xe s1) X.xe s
def zri (ho : s.heap.get? it = some o) (hc : o.cls = .type n) (hd : o.data = .fields vs)
    (hn : ["enumerate", "zip", "dict_itemiterator", "dict_reverseitemiterator", "odict_iterator", "itertools.zip_longest", "itertools.pairwise"].contains n = false) (hQ : Q () s) : wpAny M A (letOwnedTupleGo tg (.ref it) u) Q E s := by
  unfold letOwnedTupleGo
  cases tg <;> first
    | exact yaj hQ
    | (cases u <;> first
        | exact yaj hQ
        | (refine yad (wpAny_load ho ?_)
           rw [hc, hd];show wpAny M A (if (["enumerate", "zip", "dict_itemiterator", "dict_reverseitemiterator", "odict_iterator", "itertools.zip_longest", "itertools.pairwise"].contains n && vs[0]? == some (rawInt _)) = true then _ else _) Q E s;rw [if_neg (by intro h; rw [hn, Bool.false_and] at h; cases h)]
           exact yaj hQ))
noncomputable def Itl(K:PySem.W.Frag)(a:Addr):It :=
 ⟨fun i H=>∃xs x,SqL K H a xs/\xs[i]?=some x,fun i H x H'=>H'=H/\∀xs,SqL K H a xs->xs[i]?=some x,fun i H=>∃xs,SqL K H a xs/\xs.length<=i⟩
noncomputable def Itt(K:PySem.W.Frag)(a:Addr):It :=
 ⟨fun i H=>∃xs x,SqT K H a xs/\xs[i]?=some x,fun i H x H'=>H'=H/\∀xs,SqT K H a xs->xs[i]?=some x,fun i H=>∃xs,SqT K H a xs/\xs.length<=i⟩
noncomputable def Itr(lo:Int)(n:Nat):It:=⟨fun i _=>i<n,fun i H x H'=>H'=H/\x=.int (lo+i),fun i _=>n<=i⟩
theorem zlq{P:Program}{K:PySem.W.Frag}(a it:Addr):Turn P w K tg (Itl K a) [it] it (fun i h=>h.IsListIter it a i) where
 mem:=by simp
 obj:=fun i h st b hb=>by
  have e:b=it:=by simpa using hb
  subst e;obtain ⟨o,e,c,d⟩:=st;exact ⟨o,e,fun v z=>by rw [d] at z;cases z⟩
 keep:=fun i h h' st k=>st.at fun o e=>k it (by simp) o e
 item:=by
  intro X hP hw hK hc i pins s σ H E I hf st hg;subst hP hw hK;obtain ⟨xs,x,hq,hx⟩:=hg;obtain ⟨its,rv,p,hz⟩:=I.list hq;obtain ⟨u,hu,ru⟩:=rv.get hx;obtain ⟨f0,f1,f2,f3,f4,f5⟩:=hf it (by simp);refine wpAny_pyNext_list_item st p.isList (x:=u) (by simpa using hu) fun h' st' sb=>?_
  have I1:Inv X pins σ H { s with heap:=h' }:=I.turned (t':=s.toks) (fun b o hb e=>(sb.2 b hb).trans e) f0 f1 f3 f4 f5;obtain ⟨o,e,c,d⟩:=id st';exact ⟨u,rfl,zri (s:={ s with heap:=h' }) e c d (by decide) ⟨x,H,I1,ru,⟨rfl,fun ys hy=>by rw [I.list_inj hy hq];exact hx⟩,st',fun b hb=>(hf b hb).1⟩⟩
 done:=by
  intro X hP hw hK hc i pins s σ H E I hf st hg;subst hP hw hK;obtain ⟨xs,hq,hx⟩:=hg;obtain ⟨its,rv,p,hz⟩:=I.list hq;obtain ⟨f0,f1,f2,f3,f4,f5⟩:=hf it (by simp);have hl:=rv.length;exact wpAny_pyNext_list_end (I.ok.hd hc) st p.isList (by simp;omega) fun h' eb=>⟨rfl,I.turned (t':=s.toks) (fun b o hb e=>eb b o hb e) f0 f1 f3 f4 f5⟩
 self:=fun _ _ _ _ _ st h=>wpAny_pyIter_listiter st h
def zkG{P:Program}{K:PySem.W.Frag}(a it:Addr):Turn P w K tg (Itt K a) [it] it (fun i h=>h.IsTupleIter it a i) where
 mem:=by simp
 obj:=fun i h st b hb=>by
  have e:b=it:=by simpa using hb
  subst e;obtain ⟨o,e,c,d⟩:=st;exact ⟨o,e,fun v z=>by rw [d] at z;cases z⟩
 keep:=fun i h h' st k=>st.at fun o e=>k it (by simp) o e
 item:=by
  intro X hP hw hK hc i pins s σ H E I hf st hg;subst hP hw hK;obtain ⟨xs,x,hq,hx⟩:=hg;obtain ⟨its,rv,p,hz⟩:=I.tuple hq;obtain ⟨u,hu,ru⟩:=rv.get hx;obtain ⟨f0,f1,f2,f3,f4,f5⟩:=hf it (by simp);refine wpAny_pyNext_tuple_item st (show s.heap.IsTuple a its.toArray from p) (x:=u) (by simpa using hu) fun h' st' sb=>?_
  have I1:Inv X pins σ H { s with heap:=h' }:=I.turned (t':=s.toks) (fun b o hb e=>(sb.2 b hb).trans e) f0 f1 f3 f4 f5;obtain ⟨o,e,c,d⟩:=id st';exact ⟨u,rfl,zri (s:={ s with heap:=h' }) e c d (by decide) ⟨x,H,I1,ru,⟨rfl,fun ys hy=>by rw [I.tuple_inj hy hq];exact hx⟩,st',fun b hb=>(hf b hb).1⟩⟩
 done:=by
  intro X hP hw hK hc i pins s σ H E I hf st hg;subst hP hw hK;obtain ⟨xs,hq,hx⟩:=hg;obtain ⟨its,rv,p,hz⟩:=I.tuple hq;obtain ⟨f0,f1,f2,f3,f4,f5⟩:=hf it (by simp);have hl:=rv.length;exact wpAny_pyNext_tuple_end (I.ok.hd hc) st (show s.heap.IsTuple a its.toArray from p) (by simp;omega) fun h' eb=>⟨rfl,I.turned (t':=s.toks) (fun b o hb e=>eb b o hb e) f0 f1 f3 f4 f5⟩
 self:=fun _ _ _ _ _ st h=>wpAny_pyIter_tupleiter st h
theorem zkH{P:Program}{K:PySem.W.Frag}(it:Addr)(lo:Int)(n:Nat):Turn P w K tg (Itr lo n) [it] it (fun i h=>IsRangeIter h it (lo+(i:Nat)*1) ((n:Int)-(i:Nat)) 1) where
 mem:=by simp
 obj:=fun i h st b hb=>by
  have e:b=it:=by simpa using hb
  subst e
  exact ⟨_,st,fun v z=>by
   have z':Data.fields _=Data.cell v:=z
   cases z'⟩
 keep:=fun i h h' st k=>k it (by simp) _ st
 item:=by
  intro X hP hw hK hc i pins s σ H E I hf st hg;subst hP hw hK;obtain ⟨f0,f1,f2,f3,f4,f5⟩:=hf it (by simp);have W:=Walks.range (prog:=X.prog) (w:=X.w) (I.ok.hd hc) it lo 1 n;refine W.item i s _ _ hg st fun v h' tk hv st' kk=>?_
  obtain ⟨t,rfl⟩:=hv;have I1:Inv X pins σ H { s with heap:=h',toks:=tk }:=I.turned (fun b o hb e=>kk b o (by simpa using hb) e) f0 f1 f3 f4 f5;refine ⟨_,rfl,zri (s:={ s with heap:=h',toks:=tk }) (n:="range_iterator") st' rfl rfl (by decide) ⟨.int (lo+i),H,I1,⟨t,?_⟩,⟨rfl,rfl⟩,st',fun b hb=>(hf b hb).1⟩⟩;rw [Int.mul_one]
 done:=by
  intro X hP hw hK hc i pins s σ H E I hf st hg;subst hP hw hK;obtain ⟨f0,f1,f2,f3,f4,f5⟩:=hf it (by simp);exact wpAny_pyNext_range_end (I.ok.hd hc) st (by have:n<=i:=hg;omega) fun h' eb=>⟨rfl,I.turned (t':=s.toks) (fun b o hb e=>eb b o hb e) f0 f1 f3 f4 f5⟩
 self:=fun _ _ _ _ _ st h=>wpAny_pyIter_rangeiter st h
section
variable{X:Cx}{tg:Expr}
noncomputable def zwr(K:PySem.W.Frag)(tl:TE):TI:=fun σ H R=>tl σ H fun x H1=>∃a,x=.ref a/\(∃xs,SqL K H1 a xs)/\R (Itl K a) H1
noncomputable def zAq(K:PySem.W.Frag)(tl:TE):TI:=fun σ H R=>tl σ H fun x H1=>∃a,x=.ref a/\(∃xs,SqT K H1 a xs)/\R (Itt K a) H1
def zqD(hl:PE X l tl):PI X tg l (zwr X.K tl):=by
 intro pins s σ H R I h;refine thn (hl pins s σ H _ I h) fun v s1 ⟨x,H1,I1,r1,q1⟩=>?_
 obtain ⟨a,e,⟨xs,hq⟩,q⟩:=q1;subst e;cases r1;obtain ⟨its,rv,p,hz⟩:=I1.list hq;refine yc3 p.isList ?_;refine ⟨s1.heap.objs.size,[s1.heap.objs.size],_,_,H1,rfl,I1.kept (t':=s1.toks) fun b o e=>yaf _ e,zlq a _,⟨_,yau _ rfl,rfl,rfl⟩,fun b hb=>?_,q⟩
 have e:b=s1.heap.objs.size:=by simpa using hb
 subst e;exact I1.fpOk (yam _) (I1.hok.fresh (yam _))
def zs7(hl:PE X l tl):PI X tg l (zAq X.K tl):=by
 intro pins s σ H R I h;refine thn (hl pins s σ H _ I h) fun v s1 ⟨x,H1,I1,r1,q1⟩=>?_
 obtain ⟨a,e,⟨xs,hq⟩,q⟩:=q1;subst e;cases r1;obtain ⟨its,rv,p,hz⟩:=I1.tuple hq;refine ybJ (show s1.heap.IsTuple a its.toArray from p) ?_;refine ⟨s1.heap.objs.size,[s1.heap.objs.size],_,_,H1,rfl,I1.kept (t':=s1.toks) fun b o e=>yaf _ e,zkG a _,⟨_,yau _ rfl,rfl,rfl⟩,fun b hb=>?_,q⟩
 have e:b=s1.heap.objs.size:=by simpa using hb
 subst e;exact I1.fpOk (yam _) (I1.hok.fresh (yam _))
theorem znZ{pins:Z3}{σ:St}{H:Hp}{s:Shared}{R:It->Hp->Prop}{E:Z5}{lo hi:Int}{t u v:Tok}{tk:Nat}(I:Inv X pins σ H s)(h1:-(2 ^ 62)<=lo)(h2:lo<2 ^ 62)(h3:-(2 ^ 62)<=hi)(h4:hi<2 ^ 62)
  (q:R (Itr lo (hi-lo).toNat) H):wpAny (model X.prog X.w) X.A (pyIter (.ref s.heap.objs.size)) (PIE X pins σ tg R) E { s with heap:=s.heap.push { cls:=.type "range",data:=.fields #[.int lo t,.int hi u,.int 1 v] },toks:=tk }:=by
 refine wpAny_pyIter_range (IsRange.new ..) (small_one h1 h2 h3 h4) ?_;have I1:Inv X pins σ H { s with heap:=s.heap.push { cls:=.type "range",data:=.fields #[.int lo t,.int hi u,.int 1 v] },toks:=tk }:=I.kept fun b o e=>yaf _ e
 refine ⟨(s.heap.push { cls:=.type "range",data:=.fields #[.int lo t,.int hi u,.int 1 v] }).objs.size,[(s.heap.push { cls:=.type "range",data:=.fields #[.int lo t,.int hi u,.int 1 v] }).objs.size],_,_,H,rfl,
  I1.kept (t':=tk) fun b o e=>yaf _ e,zkH _ lo (hi-lo).toNat,?_,fun b hb=>?_,q⟩
 ·have e1:lo+((0:Nat):Int)*1=lo:=by simp
  have e2:(((hi-lo).toNat:Nat):Int)-((0:Nat):Int)=Builtin.Range.rangeSize lo hi 1:=by rw [rangeSize_one];split<;>omega
  show IsRangeIter _ _ (lo+((0:Nat):Int)*1) ((((hi-lo).toNat:Nat):Int)-((0:Nat):Int)) 1;rw [e1,e2];exact yau _ rfl
 ·have e:b=(s.heap.push { cls:=.type "range",data:=.fields #[.int lo t,.int hi u,.int 1 v] }).objs.size:=by simpa using hb
  subst e;exact I1.fpOk (yam _) (I1.hok.fresh (yam _))
noncomputable def zwq(ta:TA):TI:=fun σ H R=>ta σ H fun vs H1=>∃j:Int,vs=[.int j]/\-(2 ^ 62)<=j/\j<2 ^ 62/\R (Itr 0 j.toNat) H1
theorem zl7{a:Expr}{ta:TA}{p pos:Pos}(hg:Gl X "range")(hm:X.mg "range" = none)(ha:PA X [a] ta)(hs:starEach [a] X.env=[(false,eval a X.env)]:=by rfl):PI X tg (.Call (.Name "range" p) [a] [] pos) (zwq ta):=by
 intro pins s σ H R I h;refine Call_ (zfT I hg hm boot_range (ybi (thn (ha pos pins s σ H _ I h) fun us s1 ⟨vs,H1,I1,r1,q1⟩=>?_) hs rfl));obtain ⟨j,e,q1,q2,q⟩:=q1;subst e
 cases r1 with
 | cons r rr =>
  cases rr;obtain ⟨t,rfl⟩:=r;exact call_range_1 (znZ I1 (by omega) (by omega) q1 q2 (by simpa using q))
noncomputable def zzA(wi:TI)(g:TG)(tb:TS):TS:=fun D σ H=>wi σ H fun J H1=>∃W:Nat->Nat->St->Hp->Prop,(∃m,W 0 m σ H1)/\∀i m σ H,W i m σ H →
 (J.stop i H/\D.nx σ H)\/(J.go i H/\∃N:St->Hp->Prop,(∀σ' H',N σ' H'->∃m',m'<m/\W (i+1) m' σ' H')/\∀x H',J.yld i H x H'->g x σ H' fun σ2 H2=>tb { D with nx:=N,ct:=N,bk:=D.nx } σ2 H2)
noncomputable def zij(fp:List Addr)(h:Heap):List (Addr×Obj):=fp.filterMap fun b=>(h.get? b).map fun o=>(b,o)
def zdP(hb:b∈fp)(e:h.get? b=some o):(b,o)∈zij fp h:=ycc.mpr ⟨b,hb,by rw [e];rfl⟩
def zmh(hp:p∈zij fp h):p.1∈fp/\h.get? p.1=some p.2:=by
 obtain ⟨b,hb,e⟩:=ycc.mp hp
 cases q:h.get? b with
 | none=>rw [q] at e;cases e
 | some o =>
  rw [q] at e;have e':(b,o)=p:=Option.some.inj e;subst e';exact ⟨hb,q⟩
def Inv.pinned(I:Inv X pins σ H s)(hf:∀b∈fp,znv X pins H b)(ho:∀b∈fp,∃o,s.heap.get? b=some o/\∀v,o.data≠.cell v):Inv X (pins++zij fp s.heap) σ H s :=
 I.pins_of fun p hp=>(ybr.mp hp).elim (fun z=>I.pin p (yaM _ z)) fun z=>by
  obtain ⟨hb,e⟩:=zmh z;obtain ⟨f0,f1,f2,_⟩:=hf p.1 hb;obtain ⟨o,e',d⟩:=ho p.1 hb;rw [e] at e';cases e';exact ⟨e,f0,f1,f2,d⟩
def Inv.unpinned(I:Inv X (pins++pl) σ H s):Inv X pins σ H s:=I.pins_of fun p hp=>I.pin p (yaM _ (List.mem_append_left _ hp))
def zs4{iter:Expr}{body:List Stmt}{wi:TI}{g:TG}{tb:TS}{pos:Pos}(hp:PassesOwn (model X.prog X.w) X.A X.env X.xe)(hc:X.calm=true)(hi:PI X tg iter wi)(hg:PG X tg g)(hb:PSs X body tb)
  (hs:∀x,foldedSetIterable iter X.env x=pure x:=by intro _;rfl):PS X (.For tg iter body [] pos) (zzA wi g tb):=by
 intro pins s σ H D I h;refine wpAny_For (thn (hi pins s σ H _ I h) fun v s1 h1=>thn h1 fun itv s2 h2=>?_) hs;obtain ⟨it,fp,tn,J,H2,e,I2,T,st2,f2,W,⟨m0,w0⟩,turn⟩:=h2;subst e;have stat:∀{H':Hp},(∀b∈fp,H' b=none)->∀b∈fp,znv X pins H' b:=fun hn b hb=>⟨hn b hb,(f2 b hb).2⟩
 refine codeAny_forLoop_any (fun n s'=>∃i σ' H',Inv X pins σ' H' s'/\tn i s'.heap/\(∀b∈fp,H' b=none)/\W i n σ' H') ?_ m0 ⟨0,σ,H2,I2,st2,fun b hb=>(f2 b hb).1,w0⟩;rintro n s3 ⟨i,σ3,H3,I3,st3,fr3,w3⟩
 rcases turn i n σ3 H3 w3 with ⟨stop,qn⟩ | ⟨go,N,hN,step⟩
 ·refine ybM hp (thn (T.done X rfl rfl rfl hc i pins s3 σ3 H3 X.xe I3 (stat fr3) st3 stop) fun r s4 ⟨hr,I4⟩=>?_);subst hr;exact ycJ ⟨σ3,H3,I4,qn⟩
 ·refine ybM hp (thn (T.item X rfl rfl rfl hc i pins s3 σ3 H3 X.xe I3 (stat fr3) st3 go) fun r s4 ⟨u,hr,h4⟩=>?_);subst hr;refine ybM hp (thn h4 fun _ s5 ⟨x,H5,I5,r5,y5,st5,fr5⟩=>?_);have I5':=I5.pinned (stat fr5) (T.obj _ _ st5);refine ybM hp (thn (hg _ s5 σ3 H5 x u _ I5' r5 (step x H5 y5)) fun _ s6 ⟨σ6,H6,I6,q6⟩=>?_);refine ybM hp (thn (hb _ s6 σ6 H6 _ I6 q6) fun f s7 q7=>?_)
  have again:∀{σ7:St} {H7:Hp},Inv X (pins++zij fp s5.heap) σ7 H7 s7->N σ7 H7->∃m,m<n/\∃i σ' H',Inv X pins σ' H' s7/\tn i s7.heap/\(∀b∈fp,H' b=none)/\W i m σ' H':=fun {σ7 H7} I7 n7=>by
   obtain ⟨m',hm,w7⟩:=hN σ7 H7 n7;refine ⟨m',hm,i+1,σ7,H7,I7.unpinned,T.keep _ _ _ st5 fun b hb o e=>(I7.pin (b,o) (yaM _ (yaM _ (zdP hb e)))).1,fun b hb=>?_,w7⟩;obtain ⟨o,e,d⟩:=T.obj _ _ st5 b hb;exact (I7.pin (b,o) (yaM _ (yaM _ (zdP hb e)))).2.1
  cases f with
  | next=>obtain ⟨σ7,H7,I7,n7⟩:=q7;exact again I7 n7
  | cont=>obtain ⟨σ7,H7,I7,n7⟩:=q7;exact again I7 n7
  | brk=>obtain ⟨σ7,H7,I7,q7⟩:=q7;exact ⟨σ7,H7,I7.unpinned,q7⟩
  | ret v=>obtain ⟨x7,σ7,H7,I7,r7,q7⟩:=q7;exact ⟨x7,σ7,H7,I7.unpinned,r7,q7⟩
end
noncomputable abbrev R2:=V->V->Hp->VK->Prop
noncomputable def OpR(X:Cx)(f:Value->Value->Sem Value)(r:R2):Prop :=
 ∀(pins:Z3) (s:Shared) (σ:St) (H:Hp) (x y:V) (v u:Value) (Q:VK),Inv X pins σ H s->zbM x v->zbM y u->r x y H Q →
  wpAny (model X.prog X.w) X.A (f v u) (EP X pins σ Q) X.xe s
noncomputable def UnR(X:Cx)(f:Value->Sem Value)(r:V->Hp->VK->Prop):Prop :=
 ∀(pins:Z3) (s:Shared) (σ:St) (H:Hp) (x:V) (v:Value) (Q:VK),Inv X pins σ H s->zbM x v->r x H Q →
  wpAny (model X.prog X.w) X.A (f v) (EP X pins σ Q) X.xe s
noncomputable def zet(X:Cx)(f:Value)(r:List V->Hp->VK->Prop):Prop :=
 ∀(pins:Z3) (s:Shared) (σ:St) (H:Hp) (xs:List V) (us:List Value) (Q:VK),Inv X pins σ H s->Vals xs us->r xs H Q →
  wpAny (model X.prog X.w) X.A (call f us) (EP X pins σ Q) X.xe s
noncomputable def tOp(r:R2)(ta tb:TE):TE:=fun σ H Q=>ta σ H fun x H1=>tb σ H1 fun y H2=>r x y H2 Q
noncomputable def tUn(r:V->Hp->VK->Prop)(ta:TE):TE:=fun σ H Q=>ta σ H fun x H1=>r x H1 Q
noncomputable def rI(C:Int->Int->Prop)(g:Int->Int->V):R2:=fun x y H Q=>∃i j,x=.int i/\y=.int j/\C i j/\Q (g i j) H
noncomputable def rI0(g:Int->Int->V):R2:=fun x y H Q=>∃i j,x=.int i/\y=.int j/\Q (g i j) H
noncomputable def rU(g:Int->V):V->Hp->VK->Prop:=fun x H Q=>∃i,x=.int i/\Q (g i) H
section
variable{X:Cx}{a b c:Expr}{ta tb tc:TE}{pos:Pos}
def zwH(ha:PE X a ta)(hb:PE X b tb){pins:Z3}{s:Shared}{σ:St}{H:Hp}{R:V->V->Hp->Prop}(I:Inv X pins σ H s)
  (h:ta σ H fun x H1=>tb σ H1 fun y H2=>R x y H2) {Q:Z5} {f:Value->Value->Sem Value}
  (hf:∀v u s2 x y H2,Inv X pins σ H2 s2->zbM x v->zbM y u->R x y H2->wpAny (model X.prog X.w) X.A (f v u) Q X.xe s2) :
  wpAny (model X.prog X.w) X.A (eval a X.env) (fun v s₁=>wpAny (model X.prog X.w) X.A (eval b X.env) (fun u s₂=>wpAny (model X.prog X.w) X.A (f v u) Q X.xe s₂) X.xe s₁) X.xe s:=by
 refine thn (ha pins s σ H _ I h) fun v s1 ⟨x,H1,I1,r1,q1⟩=>?_
 refine thn (hb pins s1 σ H1 _ I1 q1) fun u s2 ⟨y,H2,I2,r2,q2⟩=>?_
 exact hf v u s2 x y H2 I2 r1 r2 q2
def zvR(ho:OpR X (binaryOp op) r)(ha:PE X a ta)(hb:PE X b tb):PE X (.BinOp a op b pos) (tOp r ta tb):=by
 intro pins s σ H Q I h;exact wpAny_BinOp (zwH ha hb I h fun v u s2 x y H2 I2 rx ry q=>ho pins s2 σ H2 x y v u Q I2 rx ry q)
def zvP(ho:UnR X (unaryOp op) r)(ha:PE X a ta):PE X (.UnaryOp op a pos) (tUn r ta):=by
 intro pins s σ H Q I h;exact UnaryOp_ (thn (ha pins s σ H _ I h) fun v s1 ⟨x,H1,I1,r1,q1⟩=>ho pins s1 σ H1 x v Q I1 r1 q1)
def opI{f:Value->Value->Sem Value}{C:Int->Int->Prop}{g:Int->Int->Int}
  (rule:∀(i j:Int) (t u:Tok) (s:Shared) (Q:Z5) (E:Z5),C i j->Q (.int (g i j) s.toks) { s with toks:=s.toks+1 }->wpAny (model X.prog X.w) X.A (f (.int i t) (.int j u)) Q E s) :
  OpR X f (rI C fun i j=>.int (g i j)):=by
 intro pins s σ H x y v u Q I rx ry h;obtain ⟨i,j,rfl,rfl,hc,q⟩:=h;obtain ⟨t,rfl⟩:=rx;obtain ⟨t',rfl⟩:=ry;exact rule i j t t' s _ _ hc ⟨.int (g i j),H,I.tok _,⟨_,rfl⟩,q⟩
def zxP{f:Value->Value->Sem Value}{g:Int->Int->Int}
  (rule:∀(i j:Int) (t u:Tok) (s:Shared) (Q:Z5) (E:Z5),Q (.int (g i j) s.toks) { s with toks:=s.toks+1 }->wpAny (model X.prog X.w) X.A (f (.int i t) (.int j u)) Q E s) :
  OpR X f (rI0 fun i j=>.int (g i j)):=by
 intro pins s σ H x y v u Q I rx ry h;obtain ⟨i,j,rfl,rfl,q⟩:=h;obtain ⟨t,rfl⟩:=rx;obtain ⟨t',rfl⟩:=ry;exact rule i j t t' s _ _ ⟨.int (g i j),H,I.tok _,⟨_,rfl⟩,q⟩
def zuR{f:Value->Value->Sem Value}{g:Int->Int->Bool}
  (rule:∀(i j:Int) (t u:Tok) (s:Shared) (Q:Z5) (E:Z5),Q (.bool (g i j)) s->wpAny (model X.prog X.w) X.A (f (.int i t) (.int j u)) Q E s) :
  OpR X f (rI0 fun i j=>.bl (g i j)):=by
 intro pins s σ H x y v u Q I rx ry h;obtain ⟨i,j,rfl,rfl,q⟩:=h;obtain ⟨t,rfl⟩:=rx;obtain ⟨t',rfl⟩:=ry;exact rule i j t t' s _ _ ⟨.bl (g i j),H,I,rfl,q⟩
noncomputable def zAF(i j:Int):Prop:=0<j/\j<1073741824
noncomputable def zwW(i j:Int):Prop:=(-(2 ^ 64)<i/\i<2 ^ 64)\/(-(2 ^ 64)<j/\j<2 ^ 64)
def zwW.ok(h:zwW i j):IntMulOk i j:=by
 rcases h with ⟨h1,h2⟩ | ⟨h1,h2⟩
 ·exact .of_left (intBits_le_64 h1 h2)
 ·exact .of_right (intBits_le_64 h1 h2)
def ztp:OpR X (binaryOp .Add) (rI0 fun i j=>.int (i+j)):=zxP fun _ _ _ _ _ _ _ q=>add_int q
def ztj:OpR X (binaryOp .Sub) (rI0 fun i j=>.int (i-j)):=zxP fun _ _ _ _ _ _ _ q=>sub_int q
def ztl:OpR X (binaryOp .Mult) (rI zwW fun i j=>.int (i*j)):=opI fun _ _ _ _ _ _ _ hc q=>mul_int q hc.ok
theorem zqK:OpR X (binaryOp .FloorDiv) (rI zAF fun i j=>.int (i / j)):=opI fun i j _ _ _ _ _ hc q=>by
 have h1:(0:Int)<j:=hc.1;have h2:j<1073741824:=hc.2;exact floordiv_int (by omega) (by rw [Int.fdiv_eq_ediv_of_nonneg i (by omega)];exact q) (.inl (PyProof.noPylong_small (by omega)))
theorem ztm:OpR X (binaryOp .Mod) (rI (fun _ j=>0<j) fun i j=>.int (i % j)):=opI fun i j _ _ _ _ _ hc q=>by
 have h1:(0:Int)<j:=hc;exact mod_int' (by omega) (by rw [Int.fmod_eq_emod_of_nonneg i (by omega)];exact q)
def unI{f:Value->Sem Value}{g:Int->Int}
  (rule:∀(i:Int) (t:Tok) (s:Shared) (Q:Z5) (E:Z5),Q (.int (g i) s.toks) { s with toks:=s.toks+1 }->wpAny (model X.prog X.w) X.A (f (.int i t)) Q E s) :
  UnR X f (rU fun i=>.int (g i)):=by
 intro pins s σ H x v Q I rx h;obtain ⟨i,rfl,q⟩:=h;obtain ⟨t,rfl⟩:=rx;exact rule i t s _ _ ⟨.int (g i),H,I.tok _,⟨_,rfl⟩,q⟩
def zr8:UnR X (unaryOp .USub) (rU fun i=>.int (-i)):=unI fun _ _ _ _ _ q=>neg_int q
end
section
variable{X:Cx}{a b c:Expr}{ta tb tc:TE}{pos:Pos}
def zpF(I:Inv X pins σ H s)(q:Q (.bl k) H)(e:k=k'):EP X pins σ Q (.bool k') s:=by
 subst e;exact ⟨.bl k,H,I,rfl,q⟩
def zvU:OpR X (compareOp .Lt) (rI0 fun i j=>.bl (decide (i<j))):=zuR fun _ _ _ _ _ _ _ q=>lt_int q
def zvV:OpR X (compareOp .LtE) (rI0 fun i j=>.bl (decide (i<=j))):=zuR fun _ _ _ _ _ _ _ q=>le_int q
def zvW:OpR X (compareOp .Gt) (rI0 fun i j=>.bl (decide (j<i))):=zuR fun _ _ _ _ _ _ _ q=>gt_int q
def zvX:OpR X (compareOp .GtE) (rI0 fun i j=>.bl (decide (j<=i))):=zuR fun _ _ _ _ _ _ _ q=>ge_int q
def ztn:OpR X (compareOp .Is) (fun x y H Q=>y=.non/\Q (.bl (decide (x=.non))) H):=by
 intro pins s σ H x y v u Q I rx ry h;obtain ⟨rfl,q⟩:=h;cases ry;refine is_none_gen (zpF I q ?_)
 cases x<;>first
  | (cases rx;rfl)
  | (obtain ⟨t,rfl⟩:=rx;rfl)
def zqJ:OpR X (compareOp .IsNot) (fun x y H Q=>y=.non/\Q (.bl (!decide (x=.non))) H):=by
 intro pins s σ H x y v u Q I rx ry h;obtain ⟨rfl,q⟩:=h;cases ry;refine isnot_none_gen (zpF I q ?_)
 cases x<;>first
  | (cases rx;rfl)
  | (obtain ⟨t,rfl⟩:=rx;rfl)
def zma(ho:OpR X (compareOp op) r)(ha:PE X a ta)(hb:PE X b tb)(hm:behindInMarks op b=false):PE X (.Compare a [op] [b] pos) (tOp r ta tb):=by
 intro pins s σ H Q I h;exact wpAny_Compare1 (zwH ha hb I h fun v u s2 x y H2 I2 rx ry q=>ho pins s2 σ H2 x y v u Q I2 rx ry q) hm
noncomputable def zpZ(t:TE):TT:=fun σ H Q=>t σ H fun x H'=>∃k,x=.bl k/\Q k H'
def zl2(ho:OpR X (compareOp op) r)(ha:PE X a ta)(hb:PE X b tb)(hm:behindInMarks op b=false):PT X (.Compare a [op] [b] pos) (zpZ (tOp r ta tb)):=by
 intro pins s σ H Q I h
 refine wpAny_isTrue_Compare1 (thn (ha pins s σ H _ I h) fun v s1 ⟨x,H1,I1,r1,q1⟩=>thn (hb pins s1 σ H1 _ I1 q1) fun u s2 ⟨y,H2,I2,r2,q2⟩ =>
  thn (ho pins s2 σ H2 x y v u _ I2 r1 r2 q2) fun c s3 ⟨z,H3,I3,r3,k,e,q3⟩=>?_) hm
 subst e;cases r3;exact ybg ⟨H3,I3,q3⟩
noncomputable def zlG(r r':R2)(ta tb tc:TE):TE:=fun σ H Q=>ta σ H fun x H1=>tb σ H1 fun y H2=>r x y H2 fun z H3=>∃k,z=.bl k ∧
 (if k=true then tc σ H3 fun w' H4=>r' y w' H4 Q else Q (.bl false) H3)
def zog{op op':CmpOp}{r r':R2}(ho:OpR X (compareOp op) r)(ho':OpR X (compareOp op') r')(ha:PE X a ta)(hb:PE X b tb)(hc:PE X c tc)
  (hm:lastMarks [op,op'] [b,c]=false:=by with_unfolding_all rfl):PE X (.Compare a [op,op'] [b,c] pos) (zlG r r' ta tb tc):=by
 intro pins s σ H Q I h
 refine Compare_chain (thn (ha pins s σ H _ I h) fun v s1 ⟨x,H1,I1,r1,q1⟩=>chain_link (thn (hb pins s1 σ H1 _ I1 q1) fun u s2 ⟨y,H2,I2,r2,q2⟩ =>
  thn (ho pins s2 σ H2 x y v u _ I2 r1 r2 q2) fun d s3 ⟨z,H3,I3,r3,k,e,q3⟩=>?_)) hm
 subst e;cases r3;refine ybg ?_
 cases k with
 | false=>exact ite_ff ⟨.bl false,H3,I3,rfl,q3⟩
 | true=>exact ite_tt (chain_last (thn (hc pins s3 σ H3 _ I3 q3) fun w' s4 ⟨z',H4,I4,r4,q4⟩=>ho' pins s4 σ H4 y z' u w' Q I4 r2 r4 q4))
def zn1{op op':CmpOp}{r r':R2}(ho:OpR X (compareOp op) r)(ho':OpR X (compareOp op') r')(ha:PE X a ta)(hb:PE X b tb)(hc:PE X c tc)
  (hm:lastMarks [op,op'] [b,c]=false:=by with_unfolding_all rfl):PT X (.Compare a [op,op'] [b,c] pos) (zpZ (zlG r r' ta tb tc)):=by
 intro pins s σ H Q I h
 refine isTrue_chain (thn (ha pins s σ H _ I h) fun v s1 ⟨x,H1,I1,r1,q1⟩=>test_link (thn (hb pins s1 σ H1 _ I1 q1) fun u s2 ⟨y,H2,I2,r2,q2⟩ =>
  thn (ho pins s2 σ H2 x y v u _ I2 r1 r2 q2) fun d s3 ⟨z,H3,I3,r3,k,e,q3⟩=>?_)) hm
 subst e;cases r3;refine ybg ?_
 cases k with
 | false =>
  obtain ⟨k',e',q'⟩:=q3;cases e';exact ite_ff ⟨H3,I3,q'⟩
 | true =>
  refine ite_tt (test_last (thn (hc pins s3 σ H3 _ I3 q3) fun w' s4 ⟨z',H4,I4,r4,q4⟩=>thn (ho' pins s4 σ H4 y z' u w' _ I4 r2 r4 q4) fun d' s5 ⟨z2,H5,I5,r5,k2,e2,q5⟩=>?_));subst e2;cases r5;exact ybg ⟨H5,I5,q5⟩
def zj8:(sizeLine:Nat)<2 ^ 63:=by rw [sizeLine_eq];decide
def zk0:OpR X (binaryOp .Add) (fun x y H Q=>∃i j,x=.str i/\y=.str j/\i.length+j.length<=sizeLine/\Q (.str (i++j)) H):=by
 intro pins s σ H x y v u Q I rx ry h;obtain ⟨i,j,rfl,rfl,hz,q⟩:=h;obtain ⟨t,rfl⟩:=rx;obtain ⟨t',rfl⟩:=ry;exact add_str (fun t' tk=>⟨.str (i++j),H,I.tok _,⟨_,rfl⟩,q⟩) hz
def zgX(r:Vals [x] us):∃u,us=[u]/\zbM x u:=by
 cases r with
 | cons r1 r2=>cases r2;exact ⟨_,rfl,r1⟩
def zu7(r:Vals [x,y] us):∃u w',us=[u,w']/\zbM x u/\zbM y w':=by
 cases r with
 | cons r1 r2 =>
  cases r2 with
  | cons r3 r4=>cases r4;exact ⟨_,_,rfl,r1,r3⟩
def zng(hc:X.calm=true):zet X (.builtin "max") (fun xs H Q=>∃i j,xs=[.int i,.int j]/\Q (.int (if j > i then j else i)) H):=by
 intro pins s σ H xs us Q I r h;obtain ⟨i,j,rfl,q⟩:=h;obtain ⟨u,w',rfl,⟨t,rfl⟩,⟨t',rfl⟩⟩:=zu7 r;refine max_two_ints (I.ok.hd hc) fun h' tk k=>⟨_,H,I.kept k,?_,q⟩
 by_cases hj:j > i
 ·rw [if_pos hj,if_pos hj];exact ⟨_,rfl⟩
 ·rw [if_neg hj,if_neg hj];exact ⟨_,rfl⟩
end
structure ObjM(h:Heap)(x dx C:Addr)(mA:Z6):Prop where
 obj:h.get? x=some (PySem.W.instObj C dx)
 ns:h.Ns1 dx mA
 ne:dx≠x
def zmy{h:Heap}{mA:Z6}(n:h.Ns1 dx mA):∃od,h.get? dx=some od/\∀name,PySem.W.lookIn name od=some (mA name):=by
 obtain ⟨o,es,ep,ho,hd,hk,_,hm⟩:=n;refine ⟨o,ho,fun name=>?_⟩;have e:=hm name;unfold nsFind findBy at e;rw [<-Array.find?_toList] at e;unfold PySem.W.lookIn;rw [hd];dsimp only;split
 ·rename_i y q;rw [q] at e;exact congrArg some e
 ·rename_i q;rw [q] at e
  have a:es.toList.any (·.refKey)=false:=by
   rw [List.any_eq_false];intro y hy;obtain ⟨z,t,hkey⟩:=hk y (Array.mem_toList_iff.mp hy);simp [DictEntry.refKey,hkey]
  have a':¬ es.toList.any (·.refKey)=true:=by rw [a];exact yba
  rw [if_neg a'];exact congrArg some e
def ObjM.look(I:ObjM h x dx C mA):∃od,PySem.W.InstAt h x (PySem.W.instObj C dx) C (some od)/\∀name,PySem.W.lookIn name od=some (mA name) :=
 let ⟨od,ho,hl⟩:=zmy I.ns
 ⟨od,⟨I.obj,rfl,rfl,ho⟩,hl⟩
section
variable{prog:Program}{w:World}{A:Around}{E:Z5}{s:Shared}{K:PySem.W.Frag}{x dx C f:Addr}{mA:Z6}{name:Str}{v:Value}
def zrj{expr:Bool}{Q:Z5}(X:K.In s.heap)(I:ObjM s.heap x dx C mA)(hg:PySem.W.plainGet K C name=true)(hh:PySem.W.hasDictIn K C=true)
  (ha:PySem.W.findIn K (.ref C) name=some none) (hv:mA name=some v) (hv':PySem.W.handedIn v=true) (h:Q v { s with toks:=s.toks+1 }) :
  wpAny (model prog w) A (getAttr (.ref x) name expr) Q E s:=by
 obtain ⟨od,J,hl⟩:=I.look;exact PySem.W.get_value X J (ycK hg).1 (PySem.W.findObj_own hh ha rfl (by rw [hl,hv])) hv' h
def zoI(X:K.In s.heap)(I:ObjM s.heap x dx C mA)(hg:PySem.W.plainGet K C name=true)
  (hf:PySem.W.findIn K (.ref C) name=some (some (.ref f))) (ht:PySem.W.isFn K (.ref f)=true) (hv:mA name=none) (h:Q (.ref f,[.ref x]) s) :
  wpAny (model prog w) A (getMethod (.ref x) name pl) Q E s:=by
 obtain ⟨od,J,hl⟩:=I.look;exact PySem.W.method_fn X J (ycK hg).1 (ycK hg).2 hf (ycq.mp ht) (by show (PySem.W.lookIn name od).map (·.isSome)=some false;rw [hl,hv];rfl) h
theorem zqi{ns:List Str}{Q:Unit->Shared->Prop}(X:K.In s.heap)(I:ObjM s.heap x dx C mA)
  (hs:PySem.W.findIn K (.ref C) "__setattr__" = some (some (.builtin "object.__setattr__"))) (hp:PySem.W.plainOver K C=true) (ht:PySem.W.takerIn K C name=some none) (hh:PySem.W.hasDictIn K C=true)
  (hw:PySem.Within mA ns) (hsz:ns.length<=sizeLine)
  (h:∀h',ObjM h' x dx C (fun y=>if y=name then some v else mA y)->Heap.SameBut dx s.heap h'->Q () { s with heap:=h',toks:=s.toks+2 }) :
  wpAny (model prog w) A (setAttr (.ref x) name v) Q E s:=by
 obtain ⟨od,J,hl⟩:=I.look;refine PySem.W.set_plain X J hs (PySem.W.osa_open (s:={ s with toks:=s.toks+1 }) (r:=none) X J hp ht fun b=>?_);obtain ⟨cd,hc,hd'⟩:=PySem.W.any_some hh;have hx:s.heap.get? x=some ⟨.ref C,some dx,.plain,#[]⟩:=I.obj;refine yad (yaj (yad (yad (wpAny_loadPart hx (yad (PySem.W.Looks.here (s:={ s with toks:=s.toks+1 }) (PySem.W.looks_clsIn X hc) ?_))))));rw [hd'];refine yaj (a:=some dx) (yad (yaj (yad ?_)));refine wpAny_nsSet1 (s:={ s with toks:=s.toks+1 }) I.ns fun h' hn2 hs2=>?_
 obtain ⟨oD,esD,epD,hoD,hdD,hcD⟩:=hn2.count (PySem.Within.cons name v hw);refine yad (wpAny_lookBehind hoD (by rw [hdD];exact pastItsLine_dict (yak hcD (by rw [yai];omega))) ?_);exact yaj (h _ ⟨(hs2.2 _ (Ne.symm I.ne)).trans I.obj,hn2,I.ne⟩ hs2)
def zos{R:Result->Shared->Prop}{vs:List Value}{kw:List (Str×Value)}(X:K.In s.heap)(hm:PySem.W.makesIn K C=true)
  (hi:PySem.W.findIn K (.ref C) "__init__" = some (some (.ref f))) (hf:PySem.W.typeIn K (.ref f)=some (.type "function"))
  (h:codeAny (model prog w) (A.under (.builtin "type.__call__" ⟨.ref C::vs,kw⟩)) (.call (.ref f) ⟨.ref (s.heap.objs.size+1)::vs,kw⟩) (PySem.W.InitBack (s.heap.objs.size+1) R)
   { s with heap:=(s.heap.push PySem.W.emptyDict).push (PySem.W.instObj C s.heap.objs.size) }) :
  codeAny (model prog w) A (.call (.ref C) ⟨vs,kw⟩) R s:=by
 obtain ⟨hh,g,d,t,os⟩:=s;exact PySem.W.make_core (PySem.W.makes_of X hm) (PySem.W.looks_findIn X hi) (fun self=>PySem.W.bind_fn X self hf) (.inl rfl) h
end
noncomputable def zeg(f:Str)(v:V):List (Str×V)->List (Str×V)
 | []=>[(f,v)]
 | (g,x)::r=>if g=f then (g,v)::r else (g,x)::zeg f v r
theorem zfQ(f g:Str)(v:V):∀fs:List (Str×V),(zeg f v fs).lookup g=if g=f then some v else fs.lookup g
 | []=>by
  show List.lookup g [(f,v)]=_
  by_cases h:g=f
  ·have hb:(g == f)=true:=ycq.mpr h;simp only [List.lookup,hb,if_pos h]
  ·have hb:(g == f)=false:=yaW.mpr h;simp only [List.lookup,hb,if_neg h]
 | (k,x)::r=>by
  have ih:=zfQ f g v r;rw [show zeg f v ((k,x)::r)=(if k=f then (k,v)::r else (k,x)::zeg f v r) from rfl]
  by_cases hk:k=f
  ·rw [if_pos hk]
   by_cases h:g=k
   ·have hb:(g == k)=true:=ycq.mpr h;simp only [List.lookup,hb,if_pos (h.trans hk)]
   ·have hb:(g == k)=false:=yaW.mpr h;simp only [List.lookup,hb,if_neg (fun e:g=f=>h (e.trans hk.symm))]
  ·rw [if_neg hk]
   by_cases h:g=k
   ·have hb:(g == k)=true:=ycq.mpr h;simp only [List.lookup,hb,if_neg (fun e:g=f=>hk (h.symm.trans e))]
   ·have hb:(g == k)=false:=yaW.mpr h;simp only [List.lookup,hb];exact ih
theorem zfU(f:Str)(v:V):∀fs:List (Str×V),f∈(zeg f v fs).map (·.1)/\∀g,g∈fs.map (·.1)->g∈(zeg f v fs).map (·.1)
 | []=>⟨by simp [zeg],fun g h=>by simp at h⟩
 | (k,x)::r=>by
  obtain ⟨i1,i2⟩:=zfU f v r;rw [show zeg f v ((k,x)::r)=(if k=f then (k,v)::r else (k,x)::zeg f v r) from rfl]
  by_cases hk:k=f
  ·rw [if_pos hk];subst hk;exact ⟨by simp,fun g h=>by simpa using h⟩
  ·rw [if_neg hk];refine ⟨?_,fun g h=>?_⟩
   ·rw [yay];exact yao _ i1
   ·rw [yay] at h ⊢
    rcases yaA.mp h with e | e
    ·exact yaA.mpr (.inl e)
    ·exact yao _ (i2 g e)
theorem zfR(f:Str)(v:V):∀fs:List (Str×V),(zeg f v fs).length<=fs.length+1
 | []=>by simp [zeg]
 | (k,x)::r=>by
  have ih:=zfR f v r;rw [show zeg f v ((k,x)::r)=(if k=f then (k,v)::r else (k,x)::zeg f v r) from rfl]
  by_cases hk:k=f
  ·rw [if_pos hk,yai,yai];omega
  ·rw [if_neg hk,yai,yai];omega
def znB.some_of(r:znB (some v) o):∃u,o=some u/\zbM v u:=by
 cases o with
 | none=>exact (show False from r).elim
 | some u=>exact ⟨u,rfl,r⟩
def znB.none_of(r:znB none o):o=none:=by
 cases o with
 | none=>rfl
 | some u=>exact (show False from r).elim
def zmQ(r:zbM v u):PySem.W.handedIn u=true:=by
 cases v with
 | non=>cases (show u=Value.none from r);rfl
 | bl b=>cases (show u=Value.bool b from r);rfl
 | int i=>obtain ⟨t,e⟩:=(show ∃t,u=Value.int i t from r);cases e;rfl
 | str x=>obtain ⟨t,e⟩:=(show ∃t,u=Value.str x t from r);cases e;rfl
 | byt b=>obtain ⟨t,e⟩:=(show ∃t,u=Value.bytes b t from r);cases e;rfl
 | flt b=>obtain ⟨t,e⟩:=(show ∃t,u=Value.float b t from r);cases e;rfl
 | ref a=>cases (show u=Value.ref a from r);rfl
 | ty n=>cases (show u=Value.type n from r);rfl
section
variable{P:Program}{w:World}{H H':Hp}{h h':Heap}{a C dx:Addr}{fs fs':List (Str×V)}
def zhp(hok:HOk P w H h)(e:H a=some (.ins C dx fs)):∃mA,ObjM h a dx C mA/\(∀f,znB (fs.lookup f) (mA f))/\PySem.Within mA (fs.map (·.1))/\fs.length<=1000/\H dx=some (.own a):=by
 obtain ⟨d,z,ne,ob,mA,n,r,q⟩:=(show zb8 P w H h a (.ins C dx fs) from hok a _ e);exact ⟨mA,⟨ob,n,ne⟩,r,q,z,d⟩
end
structure Cls(K:PySem.W.Frag)(C:Addr):Prop where
 pg:PySem.W.plainGet K C Str.empty=true
 hd:PySem.W.hasDictIn K C=true
 po:PySem.W.plainOver K C=true
 sa:PySem.W.findIn K (.ref C) "__setattr__" = some (some (.builtin "object.__setattr__"))
def Cls.get{K:PySem.W.Frag}(c:Cls K C)(f:Str):PySem.W.plainGet K C f=true:=c.pg
noncomputable def zd9(K:PySem.W.Frag)(C:Addr)(f:Str):Prop:=PySem.W.findIn K (.ref C) f=some none
def zd9.taker{K:PySem.W.Frag}(n:zd9 K C f):PySem.W.takerIn K C f=some none:=by
 unfold PySem.W.takerIn;rw [show PySem.W.findIn K (.ref C) f=some none from n];rfl
structure Meth(K:PySem.W.Frag)(C:Addr)(m:Str)(f:Addr):Prop where
 at_:PySem.W.findIn K (.ref C) m=some (some (.ref f))
 fn:PySem.W.isFn K (.ref f)=true
 kp:PySem.W.keepIn K (.ref f)=true
section
variable{X:Cx}{pins:Z3}{σ:St}{H:Hp}{s:Shared}{a C dx:Addr}{fs:List (Str×V)}{f:Str}{v:V}{A:Around}{E:Z5}
def zk9(I:Inv X pins σ H s)(e:H a=some (.ins C dx fs))(c:Cls X.K C)(n:zd9 X.K C f)(l:fs.lookup f=some v)
  (h:∀u s',Inv X pins σ H s'->zbM v u->Q u s'):wpAny (model X.prog X.w) A (getAttr (.ref a) f b) Q E s:=by
 obtain ⟨mA,O,r,_,_,_⟩:=zhp I.hok e;obtain ⟨u,hu,ru⟩:=znB.some_of (v:=v) (o:=mA f) (by rw [<-l];exact r f);exact zrj I.kIn O (c.get f) c.hd n hu (zmQ ru) (h u _ (I.tok _) ru)
def zgI(I:Inv X pins σ H s)(e:H a=some (.ins C dx fs))(c:Cls X.K C)(k:Meth X.K C m g)(l:fs.lookup m=none)
  (h:Q (.ref g,[.ref a]) s):wpAny (model X.prog X.w) A (getMethod (.ref a) m pl) Q E s:=by
 obtain ⟨mA,O,r,_,_,_⟩:=zhp I.hok e;have hn:mA m=none:=znB.none_of (by rw [<-l];exact r m);exact zoI I.kIn O (c.get m) k.at_ k.fn hn h
def zkN(I:Inv X pins σ H s)(e:H a=some (.ins C dx fs))(c:Cls X.K C)(n:zd9 X.K C f)(hl:fs.length<1000)(ry:zbM y u)
  (h:∀s',Inv X pins σ (upd H a (.ins C dx (zeg f y fs))) s'->Q () s'):wpAny (model X.prog X.w) A (setAttr (.ref a) f u) Q E s:=by
 obtain ⟨mA,O,r,wi,_,ho⟩:=zhp I.hok e
 have hz:(fs.map (·.1)).length<=sizeLine:=by rw [yae,sizeLine_eq];omega
 refine zqi I.kIn O c.sa c.po n.taker c.hd wi hz fun h' O' sb=>h _ ?_
 have hd:∃o,h'.get? dx=some o:=let ⟨o,_,_,e',_⟩:=O'.ns;⟨o,e'⟩
 refine I.write (x:=a) (e:=dx) (by rw [e];exact True.intro) (.inr ho) (fun b q hb z=>(sb.2 b hb).trans z) hd ?_;refine ⟨by rw [zau O.ne];exact ho,?_,O.ne,O'.obj,_,O'.ns,fun g=>?_,fun g hg=>?_⟩
 ·have:=zfR f y fs;omega
 ·show znB ((zeg f y fs).lookup g) (if g=f then some u else mA g);rw [zfQ]
  by_cases q:g=f
  ·rw [if_pos q,if_pos q];exact ry
  ·rw [if_neg q,if_neg q];exact r g
 ·by_cases q:g=f
  ·rw [q];exact (zfU f y fs).1
  ·refine (zfU f y fs).2 g (wi g fun z=>hg ?_);show (if g=f then some u else mA g)=none;rw [if_neg q];exact z
def Inv.made(I:Inv X pins σ H s):Inv X pins σ (upd (upd H s.heap.objs.size (.own (s.heap.objs.size+1))) (s.heap.objs.size+1) (.ins C s.heap.objs.size []))
  { s with heap:=(s.heap.push PySem.W.emptyDict).push (PySem.W.instObj C s.heap.objs.size) }:=by
 have e1:(s.heap.push PySem.W.emptyDict).get? s.heap.objs.size=some PySem.W.emptyDict:=yau s.heap rfl
 have e2:((s.heap.push PySem.W.emptyDict).push (PySem.W.instObj C s.heap.objs.size)).get? (s.heap.objs.size+1)=some (PySem.W.instObj C s.heap.objs.size):=by
  have:=yau (s.heap.push PySem.W.emptyDict) (o:=PySem.W.instObj C s.heap.objs.size) rfl
  rwa [yaZ] at this
 have e3:(s.heap.push PySem.W.emptyDict).Ns s.heap.objs.size (fun _=>none):=⟨PySem.W.emptyDict,#[],_,e1,rfl,(fun e he=>absurd he (by simp)),fun _=>rfl⟩;have I1:=I.laid (a:=s.heap.objs.size) (o:=.own (s.heap.objs.size+1)) (h':=s.heap.push PySem.W.emptyDict) (t':=s.toks) (fun b u q=>yaf _ q) (yam _) ⟨_,e1⟩;refine I1.laid (a:=s.heap.objs.size+1) (o:=.ins C s.heap.objs.size []) (t':=s.toks) (fun b u q=>yaf _ q) (Nat.le_of_eq (yaZ _ _)) ?_;have ne:s.heap.objs.size≠s.heap.objs.size+1:=yaz (ybF _);refine ⟨by rw [zau ne,zaM],ybn _,ne,e2,fun _=>none,(Heap.Ns1.of_empty e3).at fun o q=>yaf _ q,fun _=>True.intro,fun y hy=>absurd rfl hy⟩
def zrL(hb:attributeBase e f env (eval e env)=eval e env)
  (h:wpAny (model prog w) A (eval e env) (fun o s₁=>wpAny (model prog w) A (getAttr o f true) Q E s₁) E s):wpAny (model prog w) A (eval (.Attribute e f pos) env) Q E s :=
 Attribute_any_ h (by rw [arm_eval_Attribute,hb])
end
noncomputable def zxI(K:PySem.W.Frag)(ta:TE)(f:Str):TE:=fun σ H Q=>ta σ H fun x H1=>∃a C dx fs v,x=.ref a/\H1 a=some (.ins C dx fs)/\Cls K C/\zd9 K C f/\fs.lookup f=some v/\Q v H1
noncomputable def zzD(K:PySem.W.Frag)(ta tv:TE)(f:Str):TS:=fun D σ H=>tv σ H fun y H1=>ta σ H1 fun x H2=>∃a C dx fs,x=.ref a/\H2 a=some (.ins C dx fs)/\Cls K C/\zd9 K C f/\fs.length<1000 ∧
 D.nx σ (upd H2 a (.ins C dx (zeg f y fs)))
noncomputable def zyT(X:Cx)(op:Operator)(rd:V->V->Hp->VK->Prop):Prop :=
 ∀(pins:Z3) (s:Shared) (σ:St) (H:Hp) (x y:V) (u v:Value) (Q:VK),Inv X pins σ H s->zbM x u->zbM y v->rd x y H Q->wpAny (model X.prog X.w) X.A (inplaceOp op u v) (EP X pins σ Q) X.xe s
section
variable{X:Cx}{o e value:Expr}{f:Str}{pos pos' tpos:Pos}{ta tv:TE}
def zik(he:PE X e ta)(hb:attributeBase e f X.env (eval e X.env)=eval e X.env):PE X (.Attribute e f pos) (zxI X.K ta f):=by
 intro pins s σ H Q I h;refine zrL hb (thn (he pins s σ H _ I h) fun u s1 ⟨x,H1,I1,rx,a,C,dx,fs,v,ex,ea,c,n,l,q⟩=>?_);subst ex;obtain rfl:u=Value.ref a:=rx;exact zk9 I1 ea c n l fun u' s2 I2 ru=>⟨v,H1,I2,ru,q⟩
def zpo(ha:PE X o ta)(hv:PE X value tv)(hs:swapsWith value (some (.Attribute o f pos')) pos.line X.env=pure false):PS X (.Assign [.Attribute o f pos'] value pos) (zzD X.K ta tv f):=by
 intro pins s σ H D I h;refine plainObj_wpAny_Assign_Attribute (thn (hv pins s σ H _ I h) fun u s1 ⟨y,H1,I1,ry,q⟩=>thn (ha pins s1 σ H1 _ I1 q) fun ov s2 ⟨x,H2,I2,rx,a,C,dx,fs,ex,ea,c,n,l,q2⟩=>?_) hs;subst ex;obtain rfl:ov=Value.ref a:=rx;exact zkN I2 ea c n l ry fun s3 I3=>⟨σ,_,I3,q2⟩
noncomputable def zxN:V->V->Hp->VK->Prop:=fun x y H Q=>∃i j,x=.int i/\y=.int j/\Q (.int (i+j)) H
noncomputable def zxM:V->V->Hp->VK->Prop:=fun x y H Q=>∃i j,x=.int i/\y=.int j/\Q (.int (i-j)) H
def zt7:zyT X .Add zxN:=by
 rintro pins s σ H x y u v Q I rx ry ⟨i,j,rfl,rfl,q⟩;obtain ⟨t,rfl⟩:=(show ∃t,u=Value.int i t from rx);obtain ⟨t',rfl⟩:=(show ∃t',v=Value.int j t' from ry);exact PyProof.Rows.iadd_int ⟨.int (i+j),H,I.tok _,⟨_,rfl⟩,q⟩
def zt6:zyT X .Sub zxM:=by
 rintro pins s σ H x y u v Q I rx ry ⟨i,j,rfl,rfl,q⟩;obtain ⟨t,rfl⟩:=(show ∃t,u=Value.int i t from rx);obtain ⟨t',rfl⟩:=(show ∃t',v=Value.int j t' from ry);exact PyProof.Rows.isub_int ⟨.int (i-j),H,I.tok _,⟨_,rfl⟩,q⟩
end
section
variable{X:Cx}{pins:Z3}{σ:St}{H:Hp}{s:Shared}{A:Around}{E:Z5}{Q:Z5}{c:Value}{b:Bool}
inductive TyOf(K:PySem.W.Frag)(H:Hp):V->Value->Prop where
 | non:TyOf K H .non (.type "NoneType")
 | bl (x:Bool):TyOf K H (.bl x) (.type "bool")
 | int (i:Int):TyOf K H (.int i) (.type "int")
 | str (x:Str):TyOf K H (.str x) (.type "str")
 | flt (x:UInt64):TyOf K H (.flt x) (.type "float")
 | lst {a:Addr} {xs:List V} (e:H a=some (.lst xs)):TyOf K H (.ref a) (.type "list")
 | frz {a:Addr} {o:Obj} {xs:List V} (e:H a=some (.frz o (.lst xs))):TyOf K H (.ref a) (.type "list")
 | tup {a:Addr} {xs:List V} (e:H a=some (.tup xs)):TyOf K H (.ref a) (.type "tuple")
 | dK {a:Addr} {kvs:List (Key×V)} (e:H a=some (.dK kvs)):TyOf K H (.ref a) (.type "dict")
 | dT {a:Addr} {kvs:List (List Key×V)} (e:H a=some (.dT kvs)):TyOf K H (.ref a) (.type "dict")
 | ins {a C dx:Addr} {fs:List (Str×V)} (e:H a=some (.ins C dx fs)) (cl:Cls K C) (ha:PySem.W.findIn K (.ref C) "__class__" = some (some (.builtin "object.__class__")))
   (hn:PySem.W.specialIn K (.builtin "object.__class__") "__get__" = some (some (.builtin "getset_descriptor.__get__"))) (htk:PySem.W.takesIn K (.builtin "object.__class__")=some true)
   (hm:PySem.W.mroIn K C (.type "object")=some true):TyOf K H (.ref a) (.ref C)
def zmI{x:V}{u t:Value}(I:Inv X pins σ H s)(rx:zbM x u)(ty:TyOf X.K H x t)(e:PySem.W.kitOne X.K t c=some b)(h:∀tk,Q (.bool b) { s with toks:=tk }) :
  wpAny (model X.prog X.w) A (call (.builtin "isinstance") [u,c]) Q E s:=by
 cases ty with
 | non=>cases (show u=Value.none from rx);exact ybc PySem.W.kitx_none I.kIn True.intro e (fun z=>nomatch z) h
 | bl y=>cases (show u=Value.bool y from rx);exact ybc PySem.W.kitx_bool I.kIn True.intro e (fun z=>nomatch z) h
 | int i=>obtain ⟨t,q⟩:=(show ∃t,u=Value.int i t from rx);cases q;exact ybc PySem.W.kitx_int I.kIn True.intro e (fun z=>nomatch z) h
 | str y=>obtain ⟨t,q⟩:=(show ∃t,u=Value.str y t from rx);cases q;exact ybc PySem.W.kitx_str I.kIn True.intro e (fun z=>nomatch z) h
 | flt y=>obtain ⟨t,q⟩:=(show ∃t,u=Value.float y t from rx);cases q;exact ybc PySem.W.kitx_float I.kIn True.intro e (fun z=>nomatch z) h
 | @lst a xs ea =>
  cases (show u=Value.ref a from rx);obtain ⟨_,_,n,_,h1⟩:=(show zb8 X.prog X.w H s.heap a (.lst xs) from I.hok a _ ea);exact ybc PySem.W.kitx_list I.kIn ⟨_,h1,rfl⟩ e (fun z=>nomatch z) h
 | @frz a ob xs ea =>
  cases (show u=Value.ref a from rx);obtain ⟨_,_,_,n,_,h1⟩:=(show zb8 X.prog X.w H s.heap a (.frz ob (.lst xs)) from I.hok a _ ea);exact ybc PySem.W.kitx_list I.kIn ⟨_,h1,rfl⟩ e (fun z=>nomatch z) h
 | @tup a xs ea =>
  cases (show u=Value.ref a from rx);obtain ⟨_,_,_,p⟩:=(show zb8 X.prog X.w H s.heap a (.tup xs) from I.hok a _ ea);obtain ⟨o,h1,h2,_⟩:=p;exact ybc PySem.W.kitx_tuple I.kIn ⟨o,h1,h2⟩ e (fun z=>nomatch z) h
 | @dK a kvs ea =>
  cases (show u=Value.ref a from rx);obtain ⟨_,_,vs,_,p⟩:=(show zb8 X.prog X.w H s.heap a (.dK kvs) from I.hok a _ ea);obtain ⟨o,es,ep,h1,h2,_⟩:=p;exact ybc PySem.W.kitx_dict I.kIn ⟨o,h1,h2.1⟩ e (fun z=>nomatch z) h
 | @dT a kvs ea =>
  cases (show u=Value.ref a from rx);obtain ⟨_,_,xs,_,o,es,ep,h1,h2,_⟩:=(show zb8 X.prog X.w H s.heap a (.dT kvs) from I.hok a _ ea);exact ybc PySem.W.kitx_dict I.kIn ⟨o,h1,h2.1⟩ e (fun z=>nomatch z) h
 | @ins a C dx fs ea cl ha hn htk hm =>
  cases (show u=Value.ref a from rx);obtain ⟨mA,O,_⟩:=zhp I.hok ea;obtain ⟨od,J,_⟩:=O.look;exact ybc (PySem.W.kitx_own (cl.get _) cl.hd ha hn htk hm) I.kIn J e (fun z=>nomatch z) h
end
structure Room(k:Nat)(A:Around):Prop where
 hd:A.handled=none
 dp:A.depth+3*k+5<recursionLimit
 un:A.units+16*k+200<cLine
theorem Room.mono(r:Room k A)(h:j<=k):Room j A:=⟨r.hd,by have:=r.dp;omega,by have:=r.un;omega⟩
theorem Room.deeper(r:Room (k+1) A)(env:Env):Room k (A.deeper env) :=
 ⟨r.hd,by have:=r.dp;show A.depth+1+3*k+5<_;omega,by have:=r.un;show A.units+3+16*k+200<_;omega⟩
def zk4{A:Around}:(A.under (.builtin "type.__call__" ⟨.ref C::us,kw⟩)).depth=A.depth+1:=by
 first | rfl | simp [Around.under,Code.weight,Code.isCreation,Code.isGuard,Code.isCaller,Code.frames,Code.isFrame,guardIds]
def zk3{A:Around}:(A.under (.builtin "type.__call__" ⟨.ref C::us,kw⟩)).units=A.units+1:=by
 first | rfl | simp [Around.under,Code.cUnits,Code.frames,Code.isFrame]
theorem Room.make(r:Room (k+1) A)(C:Addr)(us:List Value)(kw:List (Str×Value)):Room k (A.under (.builtin "type.__call__" ⟨.ref C::us,kw⟩)) :=
 ⟨r.hd,by have:=r.dp;rw [zk4];omega,by have:=r.un;rw [zk3];omega⟩
theorem Room.depth(r:Room k A):A.depth<recursionLimit:=by have:=r.dp;omega
theorem Room.units(r:Room k A):A.units+64<cLine:=by have:=r.un;omega
noncomputable def zvn:TA:=fun _ H Q=>Q [] H
noncomputable def zvt(ta:TE)(tr:TA):TA:=fun σ H Q=>ta σ H fun x H1=>tr σ H1 fun xs H2=>Q (x::xs) H2
section
variable{X:Cx}{e:Expr}{es:List Expr}{te:TE}{t:TA}{pos:Pos}
def zd6:PA X [] zvn:=fun _ _ _ _ H Q I h=>Calls.spliced_nil ⟨[],H,I,.nil,h⟩
def zcr(ha:PE X e te)(hr:PA X es t)(hs:starEach (e::es) X.env=(false,eval e X.env)::starEach es X.env:=by rfl):PA X (e::es) (zvt te t):=by
 intro pos pins s σ H Q I h;rw [hs];show wpAny _ _ (spliced ((false,eval e X.env)::backTo pos (starEach es X.env))) _ _ s;refine ycV (thn (ha pins s σ H _ I h) fun u s1 ⟨x,H1,I1,r1,q1⟩=>?_);exact thn (hr pos pins s1 σ H1 _ I1 q1) fun us s2 ⟨xs,H2,I2,r2,q2⟩=>⟨x::xs,H2,I2,.cons r1 r2,q2⟩
noncomputable def zzt(t:TA):TE:=fun σ H Q=>t σ H fun xs H1=>xs.length<=sizeLine/\∀p,H1 p=none->Q (.ref p) (upd H1 p (.tup xs))
noncomputable def zzy(t:TA):TE:=fun σ H Q=>t σ H fun xs H1=>xs.length<=sizeLine/\∀p,H1 p=none->Q (.ref p) (upd H1 p (.lst xs))
def zps{x1}(h:PA X es t):PE X (.Tuple es x1 pos) (zzt t):=by
 intro pins s σ H Q I hq;refine wpAny_Tuple_spliced (thn (h pos pins s σ H _ I hq) fun us s1 ⟨xs,H1,I1,r,z,q⟩=>⟨by rw [<-r.length];exact z,?_⟩);have hf:H1 s1.heap.objs.size=none:=I1.hok.fresh (yam _);refine ⟨.ref s1.heap.objs.size,upd H1 s1.heap.objs.size (.tup xs),I1.laid (t':=s1.toks) (fun b u e=>yaf _ e) (yam _) ?_,rfl,q _ hf⟩;exact ⟨z,us,r,⟨_,yau _ rfl,rfl,_,rfl,rfl⟩⟩
def zpt(h:PA X es t):PE X (.List es pos) (zzy t):=by
 intro pins s σ H Q I hq;refine wpAny_List_spliced (thn (h pos pins s σ H _ I hq) fun us s1 ⟨xs,H1,I1,r,z,q⟩=>⟨by rw [<-r.length];exact z,?_⟩);have hf:H1 s1.heap.objs.size=none:=I1.hok.fresh (yam _);refine ⟨.ref s1.heap.objs.size,upd H1 s1.heap.objs.size (.lst xs),I1.laid (t':=s1.toks) (fun b u e=>yaf _ e) (yam _) ?_,rfl,q _ hf⟩;exact ⟨z,us,0,r,yau _ rfl⟩
end
noncomputable abbrev Sp:=List V->Hp->VK->XK->Prop
noncomputable abbrev CXT:=List Env->Hp->Shared->XK->Value->Shared->Prop
structure Env0(P:Program)(w:World)(K:PySem.W.Frag)(mg:Z6)(base:Heap)(A:Around)(outer:List Env)(s:Shared)(H:Hp):Prop where
 frames:A.frames=some outer
 mod:Mod K mg base
 bs:∀b o,base.get? b=some o->s.heap.get? b=some o/\H b=none
 bsz:base.objs.size<=s.heap.objs.size
 funs:s.heap.FunFrames base outer
 frf:∀b∈frs outer,H b=none
 hok:HOk P w H s.heap
 bare:AllBare s.gens
noncomputable def CE(outer:List Env)(P:Program)(w:World)(H:Hp)(s:Shared)(Q:VK)(u:Value)(s':Shared):Prop :=
 ∃v H',s'.os=s.os/\AllBare s'.gens/\Un (frs outer) [] H H' s.heap s'.heap/\HOk P w H' s'.heap/\zbM v u/\Q v H'
noncomputable def CR(CX:CXT)(outer:List Env)(P:Program)(w:World)(H:Hp)(s:Shared)(Q:VK)(E:XK)(r:Result)(s':Shared):Prop :=
 match r with
 | .ok (.ret u)=>CE outer P w H s Q u s'
 | .ok _=>False
 | .error e=>CX outer H s E e s'
structure FnOk(P:Program)(w:World)(K:PySem.W.Frag)(mg:Z6)(base:Heap)(CX:CXT)(k:Nat)(f:Addr)(fd:FuncData)(ps:List Str)(sp:Sp):Prop where
 len:∀vs H Q E,sp vs H Q E->vs.length=ps.length
 run:∀(A:Around) (outer:List Env) (s:Shared) (H:Hp) (args:Args) (us:List Value) (vs:List V) (Q:VK) (E:XK),Room k A->Env0 P w K mg base A outer s H->BindsTo s fd args (ps.zip us)->Vals vs us->sp vs H Q E →
  codeAny (model P w) A (.call (.ref f) args) (CR CX outer P w H s Q E) s
theorem FnOk.mono{P:Program}{K:PySem.W.Frag}{j k:Nat}(F:FnOk P w K mg base CX j f fd ps sp)(h:j<=k) :
  FnOk P w K mg base CX k f fd ps sp:=⟨F.len,fun A outer s H args us vs Q E hr=>F.run A outer s H args us vs Q E (hr.mono h)⟩
def FnOk.imp{P:Program}{K:PySem.W.Frag}{k:Nat}(F:FnOk P w K mg base CX k f fd ps sp)
  (h:∀vs H Q E,sp' vs H Q E->sp vs H Q E):FnOk P w K mg base CX k f fd ps sp' :=
 ⟨fun vs H Q E q=>F.len vs H Q E (h _ _ _ _ q),fun A outer s H args us vs Q E hr he hb hv hs=>F.run A outer s H args us vs Q E hr he hb hv (h _ _ _ _ hs)⟩
def Env0.make{P:Program}{K:PySem.W.Frag}{A:Around}(e:Env0 P w K mg base A outer s H)(C:Addr)(us:List Value)(kw:List (Str×Value)) :
  Env0 P w K mg base (A.under (.builtin "type.__call__" ⟨.ref C::us,kw⟩)) outer s H:=⟨by first | exact e.frames | (simpa [Around.under,Code.envs,Code.isFrame,pushEnvs] using e.frames),e.mod,e.bs,e.bsz,e.funs,e.frf,e.hok,e.bare⟩
section
variable{X:Cx}{pins:Z3}{σ:St}{H:Hp}{s s':Shared}
def Inv.env0(I:Inv X pins σ H s):Env0 X.prog X.w X.K X.mg X.base X.A X.stack s H :=
 ⟨I.ok.frames,I.ok.mod,I.bs,yak I.ok.bsz I.sz,I.stack,I.stkFree,I.hok,I.bare⟩
def Inv.after(I:Inv X pins σ H s)(h:CE X.stack X.prog X.w H s Q u s'):EP X pins σ Q u s':=by
 obtain ⟨v,H',os,bare,un,hok,r,q⟩:=h;obtain ⟨hh,g,d,t,os'⟩:=s';obtain rfl:os'=s.os:=os;exact ⟨v,H',I.call (h':=hh) (g':=g) (d':=d) (t':=t) (ch:=[]) un hok bare (fun b z=>absurd z (by simp)),r,q⟩
end
noncomputable def zcA(K:PySem.W.Frag)(fd:FuncData)(ps:List Str)(ds:List Value):Prop :=
 ∀(s:Shared) (us:List Value),K.In s.heap->(us++ds).length=ps.length->BindsTo s fd ⟨us,[]⟩ (ps.zip (us++ds))
def zcA.all{K:PySem.W.Frag}{ps:List Str}(h:∀us:List Value,us.length=ps.length->bindArgs fd ⟨us,[]⟩=pure (ps.zip us)):zcA K fd ps []:=fun s us _ hl=>by
 rw [yaX] at hl ⊢;exact .of_eq (h us hl)
noncomputable def zuJ(CX:CXT)(X:Cx)(E:XK):Prop:=∀(pins:Z3) (σ:St) (H:Hp) (s:Shared) (e:Value) (s':Shared),Inv X pins σ H s->CX X.stack H s E e s'->X.xe e s'
section
variable{X:Cx}{CX:CXT}{k:Nat}{f C:Addr}{fd:FuncData}{ps:List Str}{sp:Sp}{dvs:List V}{ds:List Value}{E:XK}{x m:Str}{p pos apos:Pos}{e o:Expr}{es:List Expr}{ta:TE}{t:TA}
structure Mk(K:PySem.W.Frag)(C f:Addr):Prop where
 makes:PySem.W.makesIn K C=true
 init:PySem.W.findIn K (.ref C) "__init__" = some (some (.ref f))
 fn:PySem.W.isFn K (.ref f)=true
 kp:PySem.W.keepIn K (.ref C)=true
end
structure FnScope(N P:List Str)(sc:Scope):Prop where
 kind:sc.kind=.function
 co:sc.isCoroutine=false
 gen:sc.isGenerator=false
 nd:N.Nodup
 pre:N.take P.length=P
 par:∀x∈P,sc.names.lookup x=some .local\/sc.names.lookup x=some .cell
 nofree:∀y∈sc.names,y.2≠.free
theorem ziT{kindOf:Str->Option NameKind}:∀{binds:List (Str×Value)} {m:Z6},(∀v,(x,v) ∉ binds)->bindL kindOf binds m x=m x
 | [],_,_=>rfl
 | (n,v)::r,m,h=>by
  unfold bindL;rw [ziT fun w hw=>h w (yao _ hw)];split
  ·have:x≠n:=by rintro rfl;exact h v yaw
   simp [this]
  ·rfl
theorem ziV{kindOf:Str->Option NameKind}:∀{binds:List (Str×Value)} {m:Z6},(∀v,(x,v) ∉ binds)->bindC kindOf binds m x=m x
 | [],_,_=>rfl
 | (n,v)::r,m,h=>by
  unfold bindC;rw [ziV fun w hw=>h w (yao _ hw)];split
  ·rfl
  ·have:x≠n:=by rintro rfl;exact h v yaw
   simp [this]
theorem ziU{kindOf:Str->Option NameKind}:∀{P:List Str} {vs:List Value} {i:Nat} {m:Z6},P.Nodup->P[i]?=some x->vs[i]?=some v->kindOf x=some .local →
  bindL kindOf (P.zip vs) m x=some v
 | [],_,_,_,_,h,_,_=>by simp at h
 | _::_,[],_,_,_,_,h,_=>by simp at h
 | p::P,w::vs,0,m,nd,h1,h2,hk=>by
  simp at h1 h2;subst h1;subst h2;show bindL kindOf ((p,w)::P.zip vs) m p=_;unfold bindL;rw [ziT fun v hv=>(ybz.mp nd).1 (List.of_mem_zip hv).1,if_pos hk];simp
 | p::P,w::vs,i+1,m,nd,h1,h2,hk=>by
  show bindL kindOf ((p,w)::P.zip vs) m x=_;unfold bindL;exact ziU (i:=i) (ybz.mp nd).2 (by simpa using h1) (by simpa using h2) hk
theorem ziW{kindOf:Str->Option NameKind}:∀{P:List Str} {vs:List Value} {i:Nat} {m:Z6},P.Nodup->P[i]?=some x->vs[i]?=some v->kindOf x≠some .local →
  bindC kindOf (P.zip vs) m x=some v
 | [],_,_,_,_,h,_,_=>by simp at h
 | _::_,[],_,_,_,_,h,_=>by simp at h
 | p::P,w::vs,0,m,nd,h1,h2,hk=>by
  simp at h1 h2;subst h1;subst h2;show bindC kindOf ((p,w)::P.zip vs) m p=_;unfold bindC;rw [ziV fun v hv=>(ybz.mp nd).1 (List.of_mem_zip hv).1,if_neg hk];simp
 | p::P,w::vs,i+1,m,nd,h1,h2,hk=>by
  show bindC kindOf ((p,w)::P.zip vs) m x=_;unfold bindC;exact ziW (i:=i) (ybz.mp nd).2 (by simpa using h1) (by simpa using h2) hk
noncomputable def zfz(N:List Str)(vs:List V):St:=vs.map some++List.replicate (N.length-vs.length) none
noncomputable def zm3(CX:CXT)(P:Program)(w:World)(K:PySem.W.Frag)(mg:Z6)(base:Heap)(N:List Str)(qual:Str)(scope:Scope)(f:Addr)(cd:Value)(A:Around)(outer:List Env)(s:Shared)(H:Hp)(E:XK):Cx where
 prog:=P
 w:=w
 K:=K
 mg:=mg
 base:=base
 A:=A.deeper (envOfC qual scope s.heap.objs.size f cd)
 N:=N
 s₀:=s
 H₀:=H
 env:=envOfC qual scope s.heap.objs.size f cd
 outer:=outer
 stack:=envOfC qual scope s.heap.objs.size f cd::outer
 ex:=[]
 calm:=true
 fn:=fun _=>true
 pn:=[]
 xe:=fun e s'=>wpAny (model P w) (A.deeper (envOfC qual scope s.heap.objs.size f cd)) (leaving (envOfC qual scope s.heap.objs.size f cd) e) (fun _ s''=>CX outer H s E e s'') (fun e' s''=>CX outer H s E e' s'') s'
def zky{sc:Scope}(h:sc.names.lookup x=some .cell):∃c,(cellsFrom n sc.names []).lookup x=some c:=by
 have q:=PySem.W.cellsFrom_some sc.names n [] (.inl h);exact Option.isSome_iff_exists.mp q
theorem zmL{P:Program}{K:PySem.W.Frag}{N ps:List Str}{scope:Scope}{A:Around}{s s1:Shared}{vs:List V}
  (S:FnScope N ps scope) (hd:A.handled=none) (e0:Env0 P w K mg base A outer s H) (hl:vs.length=ps.length) (r:Vals vs us)
  (x:InCallC s s.heap.objs.size (bindL (envOfC qual scope s.heap.objs.size f cd).kindOf (ps.zip us) fun _=>none) (cellsFrom (s.heap.objs.size+1) scope.names []) (bindC (envOfC qual scope s.heap.objs.size f cd).kindOf (ps.zip us) fun _=>none) s1) :
  Inv (zm3 CX P w K mg base N qual scope f cd A outer s H E) [] (zfz N vs) H s1:=by
 have hpl:ps.length<=N.length:=by have:=congrArg List.length S.pre;rw [ya6] at this;omega
 obtain ⟨h1,tk,rfl,hk⟩:=x.done;have noA:∀b:Addr,b ∉ (zm3 CX P w K mg base N qual scope f cd A outer s H E).ex:=fun b z=>absurd (show b∈([]:List Addr) from z) (by simp)
 refine ⟨⟨e0.mod,S.kind,rfl,rfl,yam _,fun y z c h1 h2=>?_,fun y hy=>?_,fun y c _ h=>?_,fun _=>hd,Around.frames_deeper e0.frames,.inr ⟨rfl,rfl⟩,fun b z=>absurd z (noA b),e0.bs,e0.bsz,fun b _ _=>noA b,fun b z=>absurd z (noA b),e0.funs,e0.frf⟩,
  rfl,e0.bare,Un.kept hk,⟨_,x.toInCall.ns,fun i y v h1 h2 h3=>?_⟩,fun y c h=>⟨_,x.cell y c h⟩,e0.hok.fresh (yam _),fun y c h=>?_,fun p hp=>absurd (show p∈([]:Z3) from hp) (by simp),e0.hok.kept hk,?_⟩
 ·exact name_of_addr x.apart (yaL h1) (yaL h2)
 ·have hy:scope.names.lookup y=some .cell\/scope.names.lookup y=some .free:=hy
  rcases hy with hy | hy
  ·exact zky hy
  ·exact absurd rfl (S.nofree _ (yaL hy))
 ·exact yb7 (x.above y c (yaL h))
 ·have hi:i<vs.length:=by
   unfold zfz at h2
   by_cases hi:i<vs.length
   ·exact hi
   ·rw [yap (by simpa using hi)] at h2;rw [ya7] at h2
    split at h2<;>cases h2
  have ha:vs[i]?=some v:=by
   unfold zfz at h2;rw [yax (by simpa using hi),yal] at h2
   cases e:vs[i]? with
   | none=>rw [e] at h2;cases h2
   | some a=>rw [e] at h2;cases h2;rfl
  obtain ⟨u,hu,rv⟩:=r.get ha
  have hp:ps[i]?=some y:=by
   rw [<-S.pre,ybN (by omega)];exact h1
  have ndP:ps.Nodup:=by rw [<-S.pre];exact S.nd.sublist (List.take_sublist _ _)
  refine ⟨u,rv,?_⟩
  rcases S.par y (ybL hp) with k | k
  ·exact .inl ⟨k,ziU ndP hp hu k⟩
  ·obtain ⟨c,e⟩:=zky (n:=s.heap.objs.size+1) k;refine .inr ⟨.inl k,c,e,?_⟩;have q:=x.cell y c e;rw [ziW ndP hp hu (by show scope.names.lookup y≠_;rw [k];decide)] at q;exact q
 ·exact e0.hok.fresh (yb7 (x.above y c (yaL h)))
 ·unfold zfz;show _=N.length;rw [yah,yae,yaC];omega
def zub{CX:CXT}{P:Program}{w:World}{K:PySem.W.Frag}{mg:Z6}{base:Heap}{k:Nat}{f:Addr}{name qual:Str}{params:Arguments}{body:List Stmt}{scope:Scope}{dV kV doc pm cdv ct oc:Value}{an od:Option Addr}
  {osl:Array (Option Value)} {N ps:List Str} {sp:Sp} (lk:K.lookup f=some ⟨oc,od,.func (PySem.W.fnOf name qual params body scope dV kV doc pm an cdv ct),osl⟩) (hcd:PySem.W.codeIn K cdv qual=true) (S:FnScope N ps scope)
  (len:∀vs H Q E,sp vs H Q E->vs.length=ps.length)
  (hbody:∀(A:Around) (outer:List Env) (s:Shared) (H:Hp) (vs:List V) (Q:VK) (E:XK),Room k (A.deeper (envOfC qual scope s.heap.objs.size f cdv))->sp vs H Q E →
   ∃t,PSs (zm3 CX P w K mg base N qual scope f cdv A outer s H E) body t/\t { nx:=fun _ H'=>Q .non H',rt:=Q } (zfz N vs) H) :
  FnOk P w K mg base CX (k+1) f (PySem.W.fnOf name qual params body scope dV kV doc pm an cdv ct) ps sp:=by
 refine ⟨len,fun A outer s H args us vs Q E hr e0 hb r hsp=>?_⟩;have hl:=len _ _ _ _ hsp;have KX:K.In s.heap:=e0.mod.kin.keeps fun b o e=>(e0.bs b o e).1
 have lim:s.heap.NoLimit:=e0.mod.nolimit.keeps fun b o e=>(e0.bs b o e).1
 have hkind:∀y∈ps.zip us,scope.names.lookup y.1=some .local\/(scope.names.lookup y.1=some .cell/\((cellsFrom (s.heap.objs.size+1) scope.names []).lookup y.1).isSome=true):=fun ⟨n,v⟩ hy=>by
  rcases S.par n (List.of_mem_zip hy).1 with q | q
  ·exact .inl q
  ·exact .inr ⟨q,PySem.W.cellsFrom_some _ _ _ (.inl q)⟩
 refine codeAny_call_function hr.depth (KX _ _ lk) rfl S.co S.gen rfl (PySem.W.codeRec_of KX hcd) (hb _ _ _ _ ?_);refine wpAny_newFunctionEnv_cells S.kind hkind fun env he s1 x=>?_
 subst he;refine ⟨lim.keeps x.toInCall.keep,codeAny_func ?_⟩;obtain ⟨t,ht,hq⟩:=hbody A outer s H vs Q E (hr.deeper _) hsp;have I:Inv (zm3 CX P w K mg base N qual scope f cdv A outer s H E) [] (zfz N vs) H s1:=zmL S hr.hd e0 hl r x;refine ybE (ht [] s1 (zfz N vs) H _ I hq) (fun fl s' hs=>?_) fun e s' hs=>hs
 have fin:∀{σ':St} {H':Hp} {v:V} {u:Value},Inv (zm3 CX P w K mg base N qual scope f cdv A outer s H E) [] σ' H' s'->zbM v u->Q v H'->CE outer P w H s Q u s' :=
  fun {σ' H' v u} J rv q=>⟨v,H',J.os,J.bare,J.base,J.hok,rv,q⟩
 cases fl with
 | ret u =>
  obtain ⟨v,σ',H',J,rv,q⟩:=hs;exact fin J rv q
 | next =>
  obtain ⟨σ',H',J,q⟩:=hs;exact fin (v:=V.non) (u:=Value.none) J rfl q
 | brk =>
  obtain ⟨_,_,_,q⟩:=hs;exact False.elim q
 | cont =>
  obtain ⟨_,_,_,q⟩:=hs;exact False.elim q
section
variable{X:Cx}{x:Str}{p pos:Pos}{e:Expr}{es:List Expr}{t:TA}{id T:String}{r:List V->Hp->VK->Prop}
noncomputable def tCB(r:List V->Hp->VK->Prop)(t:TA):TE:=fun σ H Q=>t σ H fun vs H1=>r vs H1 Q
def zhi(hc:zet X (.builtin id) r)(hg:Gl X x)(hm:X.mg x=none)(hv:bootBuiltins x=some (.builtin id))(ha:PA X (e::es) t)(hn:x ≠ "__name__":=by decide)(hdb:(x == ("__debug__":Str))=false:=by decide)
  (he:starEach (e::es) X.env=(false,eval e X.env)::starEach es X.env:=by rfl) (hpl:(backTo pos (starEach es X.env)).any (·.1)=false:=by rfl):PE X (.Call (.Name x p) (e::es) [] pos) (tCB r t):=by
 intro pins s σ H Q I h;refine ybS (zfT I hg hm hv ?_ hn hdb);exact PyProof.Rows.callWith_builtin1 (thn (ha pos pins s σ H _ I h) fun us s1 ⟨vs,H1,I1,r1,q1⟩=>hc pins s1 σ H1 vs us Q I1 r1 q1) he hpl
def zeF(hc:zet X (.type T) r)(hg:Gl X x)(hm:X.mg x=none)(hv:bootBuiltins x=some (.type T))(ha:PA X (e::es) t)(hn:x ≠ "__name__":=by decide)(hdb:(x == ("__debug__":Str))=false:=by decide)
  (he:starEach (e::es) X.env=(false,eval e X.env)::starEach es X.env:=by rfl) (hpl:(backTo pos (starEach es X.env)).any (·.1)=false:=by rfl):PE X (.Call (.Name x p) (e::es) [] pos) (tCB r t):=by
 intro pins s σ H Q I h;refine ybS (zfT I hg hm hv ?_ hn hdb);exact ybi (thn (ha pos pins s σ H _ I h) fun us s1 ⟨vs,H1,I1,r1,q1⟩=>hc pins s1 σ H1 vs us Q I1 r1 q1) he hpl
end
end L2
namespace HT
open PySem PyProof.Rows
section
open PySem.SeqAt
open PySem.AutoSeq1 (wpAny_loadPart')
open PySem.MeetsSeq PySem.MeetsSeq2 PySem.MeetsSeq3
end
section
variable{prog:Program}{w:World}{A:Around}{E:Z5}{s:Shared}
def zrG{t b:Addr}{vs ws:List Value}{Q:Z5}(ht:IsTup s.heap t vs.toArray)(hb:IsTup s.heap b ws.toArray)(hv:vs≠[])
  (h1:ws=[]->Q (.ref t) s) (h2:ws≠[]->Q (.ref s.heap.objs.size) { s with heap:=s.heap.push { cls:=.type "tuple",data:=.seq (vs++ws).toArray } })
  (hsz:vs.length+ws.length<=sizeLine):wpAny (model prog w) A (binaryOp .Add (.ref t) (.ref b)) Q E s:=by
 obtain ⟨⟨cls,dd,data,sl⟩,ho,hc,n,hd⟩:=id ht;obtain ⟨⟨cls2,dd2,data2,sl2⟩,ho2,hc2,n2,hd2⟩:=id hb;simp only at hc hd hc2 hd2;subst hc hd hc2 hd2
 have e:vs.toArray++ws.toArray=(vs++ws).toArray:=by simp
 by_cases hw:ws=[]
 ·exact concat_meets ⟨_,ho,rfl⟩ ⟨_,ho2,rfl⟩ noFill_tuple_add seq_tuple_add ycm ycd (yb8 _ _)
   (tuple_addW1 t b vs.toArray ws.toArray n n2 dd dd2 sl sl2 (by simpa using hv) (by simp [hw])) ⟨ho,ho2,h1 hw⟩
 ·refine concat_meets ⟨_,ho,rfl⟩ ⟨_,ho2,rfl⟩ noFill_tuple_add seq_tuple_add ycm ycd (yb8 _ _)
   (tuple_addW2 t b vs.toArray ws.toArray n n2 dd dd2 sl sl2 (by simpa using hv) (by simpa using hw) (by rw [yag,yag];exact hsz)) ⟨ho,ho2,?_⟩
  rw [e];exact h2 hw
noncomputable def sIx(n d:Nat):Option Int->Nat
 | none=>d
 | some v=>if v<0 then (v+(n:Int)).toNat else min v.toNat n
theorem zeX(n d k:Nat):sIx n d (some (k:Int))=min k n:=by
 show (if (k:Int)<0 then ((k:Int)+(n:Int)).toNat else min (k:Int).toNat n)=min k n;rw [if_neg (by omega),yaB]
theorem zsR(n d:Nat)(hd:d<=n)(o:Option Int):sIx n d o<=n:=by
 cases o with
 | none=>exact hd
 | some v =>
  show (if v<0 then (v+(n:Int)).toNat else min v.toNat n)<=n
  by_cases hv:v<0
  ·rw [if_pos hv];omega
  ·rw [if_neg hv];exact Nat.min_le_right _ _
theorem zm9(v:Int)(n d:Nat):(if v<0 then max (v+(n:Int)) 0 else min v (n:Int))=((sIx n d (some v):Nat):Int):=by
 show (if v<0 then max (v+(n:Int)) 0 else min v (n:Int))=(((if v<0 then (v+(n:Int)).toNat else min v.toNat n):Nat):Int)
 by_cases hv:v<0
 ·simp only [if_pos hv];omega
 ·simp only [if_neg hv];omega
theorem zlj(lo hi:Option Int)(n:Nat):Builtin.Slice.sliceAdjust lo hi 1 (n:Int)=(((sIx n 0 lo:Nat):Int),((sIx n n hi:Nat):Int)):=by
 have h1:¬ ((1:Int)<0):=by omega
 unfold Builtin.Slice.sliceAdjust;simp only [h1,ybO];refine Prod.ext ?_ ?_
 ·cases lo with
  | none=>rfl
  | some v=>exact zm9 v n 0
 ·cases hi with
  | none=>rfl
  | some v=>exact zm9 v n n
theorem zkX(i j:Nat):Builtin.Slice.slicePlaces (i:Int) (j:Int) 1=j-i:=by
 unfold Builtin.Slice.slicePlaces
 have h1:(1:Int) > 0:=by omega
 simp only [h1,yb4,Int.ediv_one]
 split<;>omega
def zgs(p:IsPart v o)(h:Q o s):wpAny (model prog w) A (Builtin.Slice.slicePartIndex v) Q E s:=by
 cases p with
 | none=>exact slicePart_none h
 | int i t=>exact slicePart_int h
def zdl{sl:Addr}{vl vu:Value}{lo hi:Option Int}{n:Nat}{Q:Int×Int×Nat->Shared->Prop}(hs:s.heap.IsSliceOf sl vl vu .none)(pl:IsPart vl lo)(pu:IsPart vu hi)
  (h:Q (((sIx n 0 lo:Nat):Int),1,sIx n n hi-sIx n 0 lo) s):wpAny (model prog w) A (Builtin.Slice.sliceApplied (.ref sl) (pure (n:Int))) Q E s:=by
 obtain ⟨os,hos,hcs,hds⟩:=id hs;unfold Builtin.Slice.sliceApplied Builtin.Slice.sliceFields;refine yad (yad (ybA hos hds (x:=vl) rfl (yad (ybA hos hds (x:=vu) rfl (yad (ybA hos hds (x:=.none) rfl (yaj ?_)))))));refine yad (slicePart_none ?_);show wpAny _ _ (if ((1:Int) == 0)=true then _ else _) _ _ s;rw [if_neg (by decide)];refine yad (zgs pl (yad (zgs pu (yad (yaj ?_)))));show wpAny _ _ (match Builtin.Slice.sliceAdjust lo hi 1 (n:Int) with | (lo,hi)=>pure (lo,(1:Int),Builtin.Slice.slicePlaces lo hi 1)) _ _ s;rw [zlj lo hi n];show wpAny _ _ (pure (((sIx n 0 lo:Nat):Int),(1:Int),Builtin.Slice.slicePlaces ((sIx n 0 lo:Nat):Int) ((sIx n n hi:Nat):Int) 1)) _ _ s;rw [zkX];exact yaj h
theorem zn8(xs:Array Value)(i k:Nat):((List.range k).filterMap fun (m:Nat)=>xs[((i:Int)+(m:Int)*1).toNat]?).toArray=((xs.toList.drop i).take k).toArray:=by
 have e:(fun (m:Nat)=>xs[((i:Int)+(m:Int)*1).toNat]?)=fun m=>xs[i+m]?:=by
  funext m
  have:((i:Int)+(m:Int)*1).toNat=i+m:=by omega
  rw [this]
 rw [e];have:=pick_run xs i k;rw [List.filterMap_map] at this;have e2:((fun x=>xs[x]?)∘fun x=>i+x)=fun m=>xs[i+m]?:=rfl
 rw [e2] at this;rw [this]
theorem ze2{t sl:Addr}{items:Array Value}{vl vu:Value}{lo hi:Option Int}{Q:Z5}(ht:IsTup s.heap t items)(hs:s.heap.IsSliceOf sl vl vu .none)(pl:IsPart vl lo)(pu:IsPart vu hi)
  (hw:¬ (sIx items.size 0 lo=0/\sIx items.size items.size hi=items.size))
  (h:Q (.ref s.heap.objs.size) { s with heap:=s.heap.push { cls:=.type "tuple",data:=.seq ((items.toList.drop (sIx items.size 0 lo)).take (sIx items.size items.size hi-sIx items.size 0 lo)).toArray } })
  (hsz:items.size<=sizeLine):wpAny (model prog w) A (getItem (.ref t) (.ref sl)) Q E s:=by
 have htake:sizeOk (.seq ((items.toList.drop (sIx items.size 0 lo)).take (sIx items.size items.size hi-sIx items.size 0 lo)).toArray):=by
  show ((items.toList.drop (sIx items.size 0 lo)).take (sIx items.size items.size hi-sIx items.size 0 lo)).toArray.size<=sizeLine;rw [yag,ya6,ybG,ycI];omega
 have hj:sIx items.size items.size hi<=items.size:=zsR _ _ (yam _) hi;obtain ⟨os,hos,hcs,hds⟩:=id hs;have hTs:s.TypeIs (.ref sl) "slice":=⟨os,hos,hcs⟩;unfold getItem
 try with_reducible refine ycb ?_
 first | refine yad (yaj ?_) | skip
 refine yad (wpAny_sequenceKey ht.typeIs (by decide) ?_)
 refine yad (ya8 (name:=Str.ofString "__getitem__") ht.typeIs yaY
  (ybm yaY ht.typeIs entry_tuple_getitem ?_ (args_tuple_getitem _ _)))
 show wpAny _ _ (Builtin.Tuple.tupleItemsOf (.ref t) >>= _) _ _ s;refine yad (tupleItemsOf_ ht ?_);refine yad (wpAny_typeOf hTs ?_);rw [if_pos (by decide)];refine yad (zdl hs pl pu ?_)
 have hno:¬ ((((sIx items.size 0 lo:Nat):Int) == 0&&(1:Int) == 1&&(sIx items.size items.size hi-sIx items.size 0 lo) == items.size)=true):=by
  intro q;rw [yac,yac] at q;have q1:((sIx items.size 0 lo:Nat):Int)=0:=eq_of_beq q.1.1;have q2:sIx items.size items.size hi-sIx items.size 0 lo=items.size:=eq_of_beq q.2;exact hw ⟨by omega,by omega⟩
 show wpAny _ _ (if (((sIx items.size 0 lo:Nat):Int) == 0&&(1:Int) == 1&&(sIx items.size items.size hi-sIx items.size 0 lo) == items.size)=true then _ else _) _ _ s;rw [if_neg hno,zn8]
 first
  | exact yad (m:=Builtin.Tuple.tupleExact _) (ybo (yaj ⟨_,rfl,yaj h⟩) htake)
  | exact yad (m:=Builtin.Tuple.tupleExact _) (ybo (yad (yaj (yaj ⟨_,rfl,yaj h⟩))) htake)
  | exact yad (yad (m:=Builtin.Tuple.tupleExact _) (ybo (yaj (yaj ⟨_,rfl,yaj h⟩)) htake))
  | exact yad (yad (m:=Builtin.Tuple.tupleExact _) (ybo (yaj ⟨_,rfl,yaj h⟩) htake))
end
end HT
namespace L2
open PySem PySem.Spec PyProof.Rows
noncomputable abbrev TO:=St->Hp->(Option Int->Hp->Prop)->Prop
noncomputable def PO(X:Cx)(e:Option Expr)(t:TO):Prop :=
 ∀(pins:Z3) (s:Shared) (σ:St) (H:Hp) (Q:Option Int->Hp->Prop),Inv X pins σ H s->t σ H Q →
  wpAny (model X.prog X.w) X.A (evalPart e X.env) (fun u s'=>∃o H',Inv X pins σ H' s'/\IsPart u o/\Q o H') X.xe s
noncomputable def zlF:TO:=fun _ H Q=>Q none H
noncomputable def zse(t:TE):TO:=fun σ H Q=>t σ H fun x H1=>∃i,x=.int i/\Q (some i) H1
section
variable{X:Cx}{e:Expr}{te:TE}{lo hi:Option Expr}{tl th:TO}{pos p2:Pos}
def zqz:PO X none zlF:=by
 intro pins s σ H Q I h;rw [evalPart_none];exact yaj ⟨none,H,I,.none,h⟩
def zqy(h:PE X e te):PO X (some e) (zse te):=by
 intro pins s σ H Q I hw;rw [evalPart_some];refine thn (h pins s σ H _ I hw) fun u s1 ⟨x,H1,I1,r1,q1⟩=>?_
 obtain ⟨i,rfl,q⟩:=q1;obtain ⟨t,rfl⟩:=r1;exact ⟨some i,H1,I1,.int i t,q⟩
noncomputable def SlR(X:Cx)(r:V->Option Int->Option Int->Hp->VK->Prop):Prop :=
 ∀(pins:Z3) (s:Shared) (σ:St) (H:Hp) (x:V) (v vl vu:Value) (lo hi:Option Int) (sl:Addr) (Q:VK),Inv X pins σ H s->zbM x v->s.heap.IsSliceOf sl vl vu .none->IsPart vl lo->IsPart vu hi->r x lo hi H Q →
  ∃T id,typeLookup (.type T) "__getitem__" = pure (some (.builtin id))/\s.TypeIs v T/\wpAny (model X.prog X.w) X.A (getItem v (.ref sl)) (EP X pins σ Q) X.xe s
noncomputable def tSl(r:V->Option Int->Option Int->Hp->VK->Prop)(te:TE)(tl th:TO):TE:=fun σ H Q=>te σ H fun x H1=>tl σ H1 fun l H2=>th σ H2 fun u H3=>r x l u H3 Q
def zoa(hr:SlR X r)(he:PE X e te)(hl:PO X lo tl)(hu:PO X hi th):PE X (.Subscript e (.Slice lo hi none p2) pos) (tSl r te tl th):=by
 intro pins s σ H Q I h;refine Subscript_ (thn (he pins s σ H _ I h) fun v s1 ⟨x,H1,I1,r1,q1⟩=>?_);refine wpAny_Slice (thn (hl pins s1 σ H1 _ I1 q1) fun vl s2 ⟨l,H2,I2,pl,q2⟩=>thn (hu pins s2 σ H2 _ I2 q2) fun vu s3 ⟨u,H3,I3,pu,q3⟩=>?_);rw [evalPart_none];refine yaj ?_;have I4:Inv X pins σ H3 { s3 with heap:=s3.heap.push { cls:=.type "slice",data:=.fields #[vl,vu,.none] } }:=I3.kept (t':=s3.toks) fun b ob q=>yaf _ q
 obtain ⟨T,id,hT,ht,hg⟩:=hr pins { s3 with heap:=s3.heap.push { cls:=.type "slice",data:=.fields #[vl,vu,.none] } } σ H3 x v vl vu l u s3.heap.objs.size Q I4 r1 (Heap.IsSliceOf.new ..) pl pu q3;show wpAny (model X.prog X.w) X.A (subscriptTail e (.Slice lo hi none p2) v (.ref s3.heap.objs.size)) (EP X pins σ Q) X.xe { s3 with heap:=s3.heap.push { cls:=.type "slice",data:=.fields #[vl,vu,.none] } };exact tail_any (ops:=[.ref s3.heap.objs.size,v]) ht hT hg (by with_unfolding_all rfl)
def zpL(xs:List V)(lo hi:Option Int):List V:=(xs.drop (HT.sIx xs.length 0 lo)).take (HT.sIx xs.length xs.length hi-HT.sIx xs.length 0 lo)
theorem zgf(xs:List V)(lo hi:Option Int):(zpL xs lo hi).length<=xs.length:=by
 unfold zpL;rw [ya6,ybG];omega
noncomputable def zzE(K:PySem.W.Frag):V->Option Int->Option Int->Hp->VK->Prop:=fun x lo hi H Q=>∃a xs,x=.ref a/\SqT K H a xs ∧
 ¬ (HT.sIx xs.length 0 lo=0/\HT.sIx xs.length xs.length hi=xs.length)/\∀p,H p=none->Q (.ref p) (upd H p (.tup (zpL xs lo hi)))
def zsA:SlR X (zzE X.K):=by
 intro pins s σ H x v vl vu lo hi sl Q I rx hs pl pu h;obtain ⟨a,xs,rfl,hx,hw,q⟩:=h;cases rx;obtain ⟨its,r,ht,hz⟩:=I.tuple hx
 have hlen:its.toArray.size=xs.length:=by rw [yag];exact r.length.symm
 refine ⟨"tuple",_,yaY.lookup,ht.typeIs,?_⟩;refine HT.ze2 ht hs pl pu (by rw [hlen];exact hw) ?_ (by rw [hlen];exact hz);rw [hlen];refine ⟨.ref s.heap.objs.size,_,I.laid (t':=s.toks) (o:=.tup (zpL xs lo hi)) (fun b ob q=>yaf _ q) (yam _) ?_,rfl,q _ (I.hok.fresh (yam _))⟩;exact ⟨yak (zgf xs lo hi) hz,_,(r.drop (HT.sIx xs.length 0 lo)).take (HT.sIx xs.length xs.length hi-HT.sIx xs.length 0 lo),zo8.new _ _⟩
noncomputable def zvK(K:PySem.W.Frag):R2:=fun x y H Q=>∃a b xs ys,x=.ref a/\y=.ref b/\SqT K H a xs/\SqT K H b ys/\xs≠[]/\xs.length+ys.length<=sizeLine ∧
 (ys=[]->Q (.ref a) H)/\(ys≠[]->∀p,H p=none->Q (.ref p) (upd H p (.tup (xs++ys))))
def Vals.nil_iff(r:Vals xs us):us=[]↔xs=[]:=by
 cases r with
 | nil=>simp
 | cons _ _=>simp
def zqL:OpR X (binaryOp .Add) (zvK X.K):=by
 intro pins s σ H x y v u Q I rx ry h;obtain ⟨a,b,xs,ys,rfl,rfl,ha,hb,hx,hz,q1,q2⟩:=h;cases rx;cases ry;obtain ⟨its,r1,p1,_⟩:=I.tuple ha;obtain ⟨its2,r2,p2,_⟩:=I.tuple hb;refine HT.zrG p1 p2 (fun z=>hx (r1.nil_iff.mp z)) (fun z=>⟨.ref a,H,I,rfl,q1 (r2.nil_iff.mp z)⟩) (fun z=>?_) (by rw [<-r1.length,<-r2.length];exact hz);refine ⟨.ref s.heap.objs.size,_,I.laid (t':=s.toks) (o:=.tup (xs++ys)) (fun b ob q=>yaf _ q) (yam _) ?_,rfl,q2 (fun w=>z (r2.nil_iff.mpr w)) _ (I.hok.fresh (yam _))⟩;exact ⟨by rw [yah];exact hz,_,r1.append r2,zo8.new _ _⟩
end
noncomputable def ixN(n:Nat)(i:Int):Option Nat:=if 0<=i then (if i<n then some i.toNat else none) else if -(n:Int)<=i then some (i+n).toNat else none
def atI{α:Type}(xs:List α)(i:Int):Option α:=(ixN xs.length i).bind fun j=>xs[j]?
theorem zre(h:ixN n i=some j):seqIndex? i n=some j/\j<n/\-(n:Int)<=i/\i<n:=by
 unfold ixN at h
 by_cases h0:0<=i
 ·rw [if_pos h0] at h
  by_cases h1:i<n
  ·rw [if_pos h1] at h;have e:i.toNat=j:=Option.some.inj h;exact ⟨by rw [seqIndex_of h0 h1,e],by omega,by omega,h1⟩
  ·rw [if_neg h1] at h;cases h
 ·rw [if_neg h0] at h
  by_cases h1:-(n:Int)<=i
  ·rw [if_pos h1] at h;have e:(i+n).toNat=j:=Option.some.inj h;exact ⟨by rw [seqIndex_neg (by omega) h1,e],by omega,h1,by omega⟩
  ·rw [if_neg h1] at h;cases h
def znp{α:Type}{xs:List α}{v:α}(h:atI xs i=some v):∃j,seqIndex? i xs.length=some j/\xs[j]?=some v/\j<xs.length/\-(xs.length:Int)<=i/\i<xs.length:=by
 unfold atI at h
 cases e:ixN xs.length i with
 | none=>rw [e] at h;cases h
 | some j =>
  rw [e] at h;obtain ⟨h1,h2,h3,h4⟩:=zre e;exact ⟨j,h1,h,h2,h3,h4⟩
noncomputable def zhI(b:Expr):Prop:=∀o i,subscripted b false o i=operate [o,i] (getItem o i)
noncomputable def IxR(X:Cx)(r:R2):Prop :=
 ∀(value slice:Expr) (pins:Z3) (s:Shared) (σ:St) (H:Hp) (x y:V) (v u:Value) (Q:VK),Inv X pins σ H s->zbM x v->zbM y u->r x y H Q →
  subscripted slice false v u=operate [v,u] (getItem v u)->wpAny (model X.prog X.w) X.A (subscriptTail value slice v u) (EP X pins σ Q) X.xe s
noncomputable def MtR(X:Cx)(id:String)(r:V->List V->Hp->VK->Prop):Prop :=
 ∀(pins:Z3) (s:Shared) (σ:St) (H:Hp) (x:V) (xs:List V) (v:Value) (us:List Value) (Q:VK),Inv X pins σ H s->zbM x v->Vals xs us->r x xs H Q →
  wpAny (model X.prog X.w) X.A (call (.builtin id) (v::us)) (EP X pins σ Q) X.xe s
section
variable{X:Cx}{a b:Expr}{ta tb:TE}{pos:Pos}
def ztd(hr:IxR X r)(ha:PE X a ta)(hb:PE X b tb)(hs:zhI b):PE X (.Subscript a b pos) (tOp r ta tb):=by
 intro pins s σ H Q I h;exact Subscript_ (zwH ha hb I h fun v u s2 x y H2 I2 rx ry q=>hr a b pins s2 σ H2 x y v u Q I2 rx ry q (hs _ _))
noncomputable def zzI(K:PySem.W.Frag):R2:=fun x y H Q=>∃p xs i v,x=.ref p/\y=.int i/\SqL K H p xs/\atI xs i=some v/\Q v H
noncomputable def zzH(K:PySem.W.Frag):R2:=fun x y H Q=>∃p xs i v,x=.ref p/\y=.int i/\SqT K H p xs/\atI xs i=some v/\Q v H
theorem zmG:IxR X (zzI X.K):=by
 intro value slice pins s σ H x y v u Q I rx ry h hs;obtain ⟨p,xs,i,z,rfl,rfl,hq,he,q⟩:=h;cases rx;obtain ⟨t,rfl⟩:=ry;obtain ⟨its,r,pl,hz⟩:=I.list hq;obtain ⟨j,h1,h2,h3,h4,h5⟩:=znp he;obtain ⟨w,ew,rw'⟩:=r.get h2;have hl:=r.length;have hn:=zj8;have fin:EP X pins σ Q w s:=⟨z,H,I,rw',q⟩
 by_cases h0:0<=i
 ·have hj:i.toNat=j:=by
   rw [seqIndex_of h0 h5] at h1;exact Option.some.inj h1
  exact item_listR pl.isList h0 (by omega) (by rw [hj];simpa using ew) fin hs
 ·have hj:(i+(its.toArray.size:Int)).toNat=j:=by
   rw [seqIndex_neg (by omega) h4] at h1;rw [yag,<-hl];exact Option.some.inj h1
  exact ycn (x:=w) pl.isList.typeIs slot_list_getitem.lookup
   (wpAny_getItem_list_neg (Q:=fun r s'=>r=w/\EP X pins σ Q r s') pl.isList (by omega) (by rw [yag]<;>omega) (by omega) (by rw [hj];simpa using ew) ⟨rfl,fin⟩) hs
theorem zt1:IxR X (zzH X.K):=by
 intro value slice pins s σ H x y v u Q I rx ry h hs;obtain ⟨p,xs,i,z,rfl,rfl,hq,he,q⟩:=h;cases rx;obtain ⟨t,rfl⟩:=ry;obtain ⟨its,r,pl,hz⟩:=I.tuple hq;obtain ⟨j,h1,h2,h3,h4,h5⟩:=znp he;obtain ⟨w,ew,rw'⟩:=r.get h2;have hl:=r.length;have hn:=zj8;have fin:EP X pins σ Q w s:=⟨z,H,I,rw',q⟩
 exact ycn (x:=w) pl.typeIs slot_tuple_getitem.lookup
  (getItem_tuple (j:=j) (Q:=fun r s'=>r=w/\EP X pins σ Q r s') pl (by omega) (by omega) (by rw [yag,<-hl];exact h1) (by simpa using ew) ⟨rfl,fin⟩) hs
theorem zhZ(lo hi:Option Int)(n:Nat):(sliceBounds lo hi none n).1=((HT.sIx n 0 lo:Nat):Int)/\(sliceBounds lo hi none n).2.1=((HT.sIx n n hi:Nat):Int)/\(sliceBounds lo hi none n).2.2=1:=by
 refine ⟨?_,?_,rfl⟩
 ·cases lo with
  | none=>simp [sliceBounds,HT.sIx]
  | some i =>
   simp only [sliceBounds,HT.sIx,Option.getD_none,show (1:Int) > 0 by decide,yb4]
   by_cases h:i<0
   ·simp only [h,yb4]<;>omega
   ·simp only [h,ybO]<;>omega
 ·cases hi with
  | none=>simp [sliceBounds,HT.sIx]
  | some i =>
   simp only [sliceBounds,HT.sIx,Option.getD_none,show (1:Int) > 0 by decide,yb4]
   by_cases h:i<0
   ·simp only [h,yb4]<;>omega
   ·simp only [h,ybO]<;>omega
def zg4(its:List Value)(lo hi:Option Int):slicePick its.toArray lo hi none=((its.drop (HT.sIx its.length 0 lo)).take (HT.sIx its.length its.length hi-HT.sIx its.length 0 lo)).toArray:=by
 obtain ⟨h1,h2,h3⟩:=zhZ lo hi its.toArray.size;unfold slicePick;rw [h1,h2,h3]
 simp only [sliceRange_one,pick_run,yag]<;>rfl
noncomputable def zzF(K:PySem.W.Frag):V->Option Int->Option Int->Hp->VK->Prop:=fun x lo hi H Q=>∃a xs,x=.ref a/\SqL K H a xs/\∀p,H p=none->Q (.ref p) (upd H p (.lst (zpL xs lo hi)))
theorem zqd:SlR X (zzF X.K):=by
 intro pins s σ H x v vl vu lo hi sl Q I rx hs pl pu h;obtain ⟨a,xs,rfl,hx,q⟩:=h;cases rx;obtain ⟨its,r,ht,hz⟩:=I.list hx;have hlen:=r.length;refine ⟨"list",_,slot_list_getitem.lookup,ht.isList.typeIs,?_⟩;refine wpAny_getItem_list_slice ht.isList hs pl pu .none (by simp) ?_ (by rw [yag]<;>omega);rw [zg4,<-hlen];refine ⟨.ref s.heap.objs.size,_,I.laid (t':=s.toks) (o:=.lst (zpL xs lo hi)) (fun b ob q=>yaf _ q) (yam _) ?_,rfl,q _ (I.hok.fresh (yam _))⟩;exact ⟨yak (zgf xs lo hi) hz,_,0,(r.drop (HT.sIx xs.length 0 lo)).take (HT.sIx xs.length xs.length hi-HT.sIx xs.length 0 lo),yau _ rfl⟩
theorem zdH:zet X (.builtin "len") (fun xs H Q=>∃p ys,xs=[.ref p]/\(SqL X.K H p ys\/SqT X.K H p ys)/\Q (.int ys.length) H):=by
 intro pins s σ H xs us Q I r h;obtain ⟨p,ys,rfl,hq,q⟩:=h;obtain ⟨u,rfl,rx⟩:=zgX r;cases rx;have hn:=zj8
 rcases hq with hq | hq
 ·obtain ⟨its,r',pl,hz⟩:=I.list hq;have hlen:=r'.length;exact Calls.call_len_list pl.isList (by simp only [yag]<;>omega) ⟨.int ys.length,H,I.tok _,⟨s.toks+1,by rw [yag,hlen]⟩,q⟩
 ·obtain ⟨its,r',pl,hz⟩:=I.tuple hq;have hlen:=r'.length;exact len_tuple pl (by simp only [yag]<;>omega) ⟨.int ys.length,H,I.tok _,⟨s.toks+1,by rw [yag,hlen]⟩,q⟩
theorem ziR:zet X (.builtin "len") (fun xs H Q=>∃z,xs=[.str z]/\z.length<=sizeLine/\Q (.int z.length) H):=by
 intro pins s σ H xs us Q I r h;obtain ⟨z,rfl,hz,q⟩:=h;obtain ⟨u,rfl,t,rfl⟩:=zgX r;have hn:=zj8;exact len_str (by omega) ⟨.int z.length,H,I.tok _,⟨_,rfl⟩,q⟩
def zfi:zet X (.type "list") (fun xs H Q=>∃p ys,xs=[.ref p]/\(SqL X.K H p ys\/SqT X.K H p ys)/\∀l,H l=none->Q (.ref l) (upd H l (.lst ys))):=by
 intro pins s σ H xs us Q I r h;obtain ⟨p,ys,rfl,hq,q⟩:=h;obtain ⟨u,rfl,rx⟩:=zgX r;cases rx
 have fin:∀(its:List Value),Vals ys its->ys.length<=sizeLine->∀(h':Heap) (c':Nat),(∀b o',s.heap.get? b=some o'->h'.get? b=some o') →
   h'.get? s.heap.objs.size=some { cls:=.type "list",dict:=none,data:=.seq its.toArray c',slots:=#[] }->EP X pins σ Q (.ref s.heap.objs.size) { s with heap:=h' }:=fun its r' hz h' c' kp e =>
  ⟨.ref s.heap.objs.size,_,I.laid (t':=s.toks) kp (yam _) (show zb8 X.prog X.w _ h' _ (.lst ys) from ⟨hz,its,c',r',e⟩),rfl,q _ (I.hok.fresh (yam _))⟩
 rcases hq with hq | hq
 ·obtain ⟨its,r',pl,hz⟩:=I.list hq;have hlen:=r'.length;obtain ⟨o,ho,hc,n,hd⟩:=pl.isList;exact call_list_seq p (.inl rfl) ho hc hd (fun h' c' kp e=>fin its r' hz h' c' kp e) (by simp only [yag]<;>omega)
 ·obtain ⟨its,r',pl,hz⟩:=I.tuple hq;have hlen:=r'.length;obtain ⟨o,ho,hc,n,hd⟩:=pl;exact call_list_seq p (.inr rfl) ho hc hd (fun h' c' kp e=>fin its r' hz h' c' kp e) (by simp only [yag]<;>omega)
def zeT:zet X (.type "tuple") (fun xs H Q=>∃p ys,xs=[.ref p]/\((SqL X.K H p ys/\∀l,H l=none->Q (.ref l) (upd H l (.tup ys)))\/(SqT X.K H p ys/\Q (.ref p) H))):=by
 intro pins s σ H xs us Q I r h;obtain ⟨p,ys,rfl,h⟩:=h;obtain ⟨u,rfl,rx⟩:=zgX r;cases rx
 rcases h with ⟨hq,q⟩ | ⟨hq,q⟩
 ·obtain ⟨its,r',pl,hz⟩:=I.list hq;have hlen:=r'.length;refine call_tuple_list pl.isList (fun h' kp=>?_) (by simp only [yag]<;>omega);have I1:Inv X pins σ H { s with heap:=h' }:=I.kept (t':=s.toks) kp
  have I2:Inv X pins σ (upd H h'.objs.size (.tup ys)) { s with heap:=h'.push { cls:=.type "tuple",data:=.seq its.toArray } } :=
   I1.laid (t':=s.toks) (fun b o e=>yaf _ e) (yam _) (show zb8 X.prog X.w _ _ _ (.tup ys) from ⟨hz,its,r',zo8.new _ _⟩)
  exact ⟨.ref h'.objs.size,_,I2,rfl,q _ (I1.hok.fresh (yam _))⟩
 ·obtain ⟨its,r',pl,hz⟩:=I.tuple hq;exact call_tuple_same pl ⟨.ref p,H,I,rfl,q⟩
noncomputable def tyV(K:PySem.W.Frag)(T:String)(x:V)(H:Hp):Prop:=match x with
 | .str _=>T = "str"
 | .int _=>T = "int"
 | .ref p=>(T = "list" /\ ∃xs,SqL K H p xs)\/(T = "tuple" /\ ∃o,K.lookup p=some o/\o.cls=.type "tuple" /\ o.dict=none) ∨
   (T = "dict" /\ ((∃kvs,H p=some (.dK kvs))\/∃kvs,H p=some (.dT kvs)))\/(T = "set" /\ ∃S n,H p=some (.set S n))
 | _=>False
def zsa(I:Inv X pins σ H s)(r:zbM x v)(ty:tyV X.K T x H) :
  s.TypeIs v T/\∀a,v=.ref a->∃ob,s.heap.get? a=some ob/\ob.dict=none:=by
 cases x with
 | str z =>
  obtain ⟨t,rfl⟩:=r;cases (show T = "str" from ty);exact ⟨typeIs_str s z t,fun _ e=>nomatch e⟩
 | int i =>
  obtain ⟨t,rfl⟩:=r;cases (show T = "int" from ty);exact ⟨ycG s i t,fun _ e=>nomatch e⟩
 | ref p =>
  cases r
  rcases ty with ⟨rfl,xs,hq⟩ | ⟨rfl,o,hk,hc,hd⟩ | ⟨rfl,hk⟩ | ⟨rfl,S,n,hk⟩
  ·obtain ⟨its,_,pl,_⟩:=I.list hq;refine ⟨pl.isList.typeIs,fun a e=>?_⟩;cases e;obtain ⟨o,n,e,c,hd,_⟩:=pl;exact ⟨o,e,hd⟩
  ·refine ⟨⟨o,I.kIn p o hk,hc⟩,fun a e=>?_⟩;cases e;exact ⟨o,I.kIn _ o hk,hd⟩
  ·have z:∃o,s.heap.get? p=some o/\o.ExactDict:=by
    rcases hk with ⟨kvs,hk⟩ | ⟨kvs,hk⟩
    ·obtain ⟨_,_,_,_,o,_,_,e,ex,_⟩:=I.hok p _ hk;exact ⟨o,e,ex⟩
    ·obtain ⟨_,_,_,_,o,_,_,e,ex,_⟩:=I.hok p _ hk;exact ⟨o,e,ex⟩
   obtain ⟨o,e,ex⟩:=z;refine ⟨⟨o,e,ex.1⟩,fun a e2=>?_⟩;cases e2;exact ⟨o,e,ex.2.1⟩
  ·obtain ⟨o,_,_,_,e,ex,_⟩:=I.hok p _ hk;refine ⟨⟨o,e,ex.1⟩,fun a e2=>?_⟩;cases e2;exact ⟨o,e,ex.2.1⟩
 | _=>exact False.elim ty
noncomputable def tBM(K:PySem.W.Frag)(T:String)(r:V->List V->Hp->VK->Prop)(to:TE)(t:TA):TE:=fun σ H Q=>to σ H fun x H1=>tyV K T x H1/\t σ H1 fun xs H2=>r x xs H2 Q
variable{o e:Expr}{es:List Expr}{to:TE}{t:TA}{name:Str}{apos cpos:Pos}{T id:String}{r:V->List V->Hp->VK->Prop}
def zqG(pa:PlainAttrs T)(slot:Slot T name id)(hty:typeOf (.builtin id)=pure (.type "method_descriptor"))(hm:MtR X id r)(ho:PE X o to)(ha:PA X (e::es) t)
  (hbase:attributeBase o name X.env (eval o X.env)=eval o X.env:=by rfl)
  (hfew:((backTo cpos (starEach (e::es) X.env)).all (fun x=>!x.1)&&(backToKw cpos (keywordEach [] X.env)).all (fun x=>x.1.isSome)
   && decide ((e::es).length+([]:List Keyword).length+(if ([]:List Keyword).isEmpty then 0 else 1)<30))=true:=by rfl)
  (hline:(apos.endLine == cpos.line)=true:=by rfl) (hs:starEach (e::es) X.env=(false,eval e X.env)::starEach es X.env:=by rfl) (hplain:(backTo cpos (starEach es X.env)).any (·.1)=false:=by rfl) :
  PE X (.Call (.Attribute o name apos) (e::es) [] cpos) (tBM X.K T r to t):=by
 intro pins s σ H Q I h;refine wpAny_Call_method_late hbase hfew hline rfl (thn (ho pins s σ H _ I h) fun v s1 ⟨x,H1,I1,r1,ty,q1⟩=>?_);obtain ⟨h1,h2⟩:=zsa I1 r1 ty;refine ⟨T,id,pa,slot,hty,h1,h2,?_⟩;have hA:=ha cpos pins s1 σ H1 _ I1 q1;rw [hs] at hA ⊢;refine yco (by show (false||(backTo cpos (starEach es X.env)).any (·.1))=false;rw [hplain]<;>rfl) (ybZ ?_);exact thn hA fun us s2 ⟨vs,H2,I2,r2,q2⟩=>hm pins s2 σ H2 x vs v us Q I2 r1 r2 q2
end
noncomputable def MtM(X:Cx)(id:String)(r:V->List V->Hp->VK->Prop):Prop :=
 ∀(pins:Z3) (s:Shared) (σ:St) (H:Hp) (x:V) (xs:List V) (v:Value) (us:List Value) (Q:VK),Inv X pins σ H s->zbM x v->Vals xs us->r x xs H Q →
  wpAny (model X.prog X.w) X.A (call (.builtin id) (v::us)) (EP X pins σ Q) X.xe s
theorem Vals.one:∀{x:V} {us:List Value},Vals [x] us->∃u,us=[u]/\zbM x u
 | _,_,.cons r .nil=>⟨_,rfl,r⟩
theorem Vals.eraseIdx:∀{xs:List V} {us:List Value} (i:Nat),Vals xs us->Vals (xs.eraseIdx i) (us.eraseIdx i)
 | _,_,_,.nil=>.nil
 | _,_,0,.cons _ t=>t
 | _,_,i+1,.cons r t=>.cons r (Vals.eraseIdx i t)
theorem Vals.rep(h:Vals xs us):∀k:Nat,Vals (List.replicate k xs).flatten (List.replicate k us).flatten
 | 0=>.nil
 | k+1=>by
  rw [ya4,ya4,ybx,ybx];exact Vals.append h (Vals.rep h k)
theorem zix{α:Type}:∀(l:List α) (i:Nat),(l.eraseIdx i).length<=l.length
 | [],_=>yam _
 | _::_,0=>yb5 _
 | _::r,i+1=>Nat.succ_le_succ (zix r i)
theorem zf3(its:List Value):∀(k:Nat) (acc:List Value),
  List.foldl (fun x1 x2=>x1++x2) acc.toArray (List.replicate k its.toArray)=(acc++(List.replicate k its).flatten).toArray
 | 0,acc=>by simp
 | k+1,acc=>by
  have e:acc.toArray++its.toArray=(acc++its).toArray:=by simp
  have e2:(acc++its)++(List.replicate k its).flatten=acc++(List.replicate (k+1) its).flatten:=by
   rw [ya4,ybx,ycr]
  rw [<-e2,<-zf3 its k (acc++its),<-e,ya4,List.foldl_cons]
section
variable{X:Cx}{pins:Z3}{σ:St}{H:Hp}{s:Shared}{l b:Addr}{xs ys zs:List V}
def Inv.lset{its its':List Value}{n:Nat}{f:Array Value->Array Value}{t':Nat}(I:Inv X pins σ H s)(hH:H l=some (.lst xs))
  (e:s.heap.get? l=some { cls:=.type "list",data:=.seq its.toArray n }) (hf:f its.toArray=its'.toArray) (hv:Vals ys its') (hz:ys.length<=sizeLine) :
  Inv X pins σ (upd H l (.lst ys)) { s with heap:=s.heap.update l (Obj.mapSeq f),toks:=t' }:=by
 have q:=PySem.IsL.update e f;rw [hf] at q;refine I.write (x:=l) (e:=l) (by rw [hH];exact trivial) (.inl rfl) (fun b' u hb hu=>(Heap.get?_update_other s.heap (Obj.mapSeq f) (Ne.symm hb)).trans hu) ⟨_,q⟩ ?_;exact ⟨hz,its',_,hv,q⟩
def Inv.lnew(I:Inv X pins σ H s)(hv:Vals ys its)(hz:ys.length<=sizeLine) :
  Inv X pins σ (upd H s.heap.objs.size (.lst ys)) { s with heap:=s.heap.push { cls:=.type "list",data:=.seq its.toArray },toks:=t' } :=
 I.laid (fun _ _ q=>yaf _ q) (yam _) ⟨hz,its,0,hv,yau _ rfl⟩
theorem Inv.fresh(I:Inv X pins σ H s):H s.heap.objs.size=none:=I.hok.fresh (yam _)
def Inv.lstM(I:Inv X pins σ H s)(hH:H l=some (.lst xs)):xs.length<=sizeLine/\∃(its:List Value) (n:Nat),Vals xs its/\xs.length=its.length/\s.heap.get? l=some { cls:=.type "list",data:=.seq its.toArray n }:=by
 obtain ⟨z,its,n,r,e⟩:=I.hok l _ hH;exact ⟨z,its,n,r,r.length,e⟩
theorem zom(h:n<=sizeLine):Builtin.List.listTooLong n=false:=by
 unfold Builtin.List.listTooLong;exact yaJ (by omega)
end
section
variable{X:Cx}
noncomputable def zqs:V->List V->Hp->VK->Prop:=fun x vs H Q=>∃l xs y,x=.ref l/\vs=[y]/\H l=some (.lst xs)/\xs.length<sizeLine/\Q .non (upd H l (.lst (xs++[y])))
theorem zit:MtM X "list.append" zqs:=by
 intro pins s σ H x vs v us Q I rx rv h;obtain ⟨l,xs,y,rfl,rfl,hH,hz,q⟩:=h;cases rx;obtain ⟨u,rfl,ru⟩:=rv.one;obtain ⟨z,its,n,r,hl,e⟩:=I.lstM hH;refine ycH F.slot_list_append ⟨_,e,rfl⟩ F.entry_list_append (F.args_list_append_2 _ _) (PySem.list_append l its.toArray n u (by rw [yag];omega)) ⟨e,?_⟩;refine ⟨.non,_,I.lset (its':=its++[u]) hH e (by simp) (r.append (.cons ru .nil)) ?_,rfl,q⟩;rw [yah,yaN];omega
noncomputable def zsY:V->List V->Hp->VK->Prop:=fun x vs H Q=>∃l xs i k y,x=.ref l/\vs=[.int i]/\H l=some (.lst xs)/\-(2 ^ 63)<=i/\i<2 ^ 63/\seqIndex? i xs.length=some k/\xs[k]?=some y/\Q y (upd H l (.lst (xs.eraseIdx k)))
theorem zoq:MtM X "list.pop" zsY:=by
 intro pins s σ H x vs v us Q I rx rv h;obtain ⟨l,xs,i,k,y,rfl,rfl,hH,h1,h2,hk,hy,q⟩:=h;cases rx;obtain ⟨u,rfl,ru⟩:=rv.one;obtain ⟨t,rfl⟩:=ru;obtain ⟨z,its,n,r,hl,e⟩:=I.lstM hH;obtain ⟨w,hw,rw'⟩:=r.get hy
 refine ycH F.slot_list_pop ⟨_,e,rfl⟩ F.entry_list_pop (F.args_list_pop_2 _ _)
  (MeetsSeq.list_pop_at l its.toArray n i t k w (fitsIndex_both h1 h2) (by rw [yag,<-hl];exact hk) (by rw [<-Array.getElem?_toList];exact hw) (by rw [yag];omega)) ⟨e,?_⟩
 refine ⟨y,_,I.lset (its':=its.eraseIdx k) hH e ?_ (r.eraseIdx k) ?_,rw',q⟩
 ·show its.toArray.eraseIdxIfInBounds k=(its.eraseIdx k).toArray;rw [List.eraseIdxIfInBounds_toArray]
 ·have:=zix xs k;omega
noncomputable def zzJ:R2:=fun x y H Q=>∃l b xs zs,x=.ref l/\y=.ref b/\H l=some (.lst xs)/\H b=some (.lst zs)/\xs.length+zs.length<=sizeLine/\∀p,H p=none->Q (.ref p) (upd H p (.lst (xs++zs)))
theorem zto:OpR X (binaryOp .Add) zzJ:=by
 intro pins s σ H x y v u Q I rx ry h;obtain ⟨l,b,xs,zs,rfl,rfl,hH,hB,hz,q⟩:=h;cases rx;cases ry;obtain ⟨z,its,n,r,hl,e⟩:=I.lstM hH;obtain ⟨z2,its2,n2,r2,hl2,e2⟩:=I.lstM hB;refine PySem.P.add_list e e2 ?_ (by rw [yag,yag];omega)
 have ea:its.toArray++its2.toArray=(its++its2).toArray:=by simp
 rw [ea];exact ⟨.ref _,_,I.lnew (t':=s.toks) (r.append r2) (by rw [yah];omega),rfl,q _ I.fresh⟩
noncomputable def zzG:R2:=fun x y H Q=>∃l k xs,x=.ref l/\y=.int k/\H l=some (.lst xs)/\-(2 ^ 63)<=k/\k<2 ^ 63/\xs.length*k.toNat<=sizeLine ∧
 ∀p,H p=none->Q (.ref p) (upd H p (.lst (List.replicate k.toNat xs).flatten))
def zjg{α:Type}(xs:List α)(k:Nat):(List.replicate k xs).flatten.length=k*xs.length:=by
 induction k with
 | zero=>simp
 | succ k ih=>rw [ya4,ybx,yah,ih,yb9,Nat.add_comm]
theorem ztk:OpR X (binaryOp .Mult) zzG:=by
 intro pins s σ H x y v u Q I rx ry h;obtain ⟨l,k,xs,rfl,rfl,hH,h1,h2,hz,q⟩:=h;cases rx;obtain ⟨t,rfl⟩:=ry;obtain ⟨z,its,n,r,hl,e⟩:=I.lstM hH
 have hlen:its.toArray.size*k.toNat<=sizeLine:=by rw [yag,<-hl];exact hz
 have hcap:¬ its.toArray.size*k.toNat > (2 ^ 63-1) / 8:=by
  have:(sizeLine:Nat)<=(2 ^ 63-1) / 8:=by decide
  omega
 have hfit:¬ (!Builtin.List.listFitsIndex k)=true:=by
  rw [fitsIndex_both h1 h2];exact yba
 have hlong:¬ Builtin.List.listTooLong (its.toArray.size*k.toNat)=true:=by
  rw [zom hlen];exact yba
 have hnew:List.foldl (fun x1 x2=>x1++x2) #[] (List.replicate (if its.toArray.isEmpty=true then 0 else k.toNat) its.toArray)=(List.replicate k.toNat its).flatten.toArray:=by
  have f0:∀m:Nat,List.foldl (fun x1 x2=>x1++x2) #[] (List.replicate m its.toArray)=(List.replicate m its).flatten.toArray:=fun m=>by
   have:=zf3 its m [];rwa [ycL] at this
  rw [f0]
  cases its with
  | nil=>simp
  | cons a r'=>rw [if_neg (by simp)]
 refine yb0 (T:="list") (U:="int") (by decide) ⟨_,e,rfl⟩ (fun s'=>ycG s' k t) noFill_list_mul F.fills_int_mul ybT repeat_list F.slot_int_index.lookup
  (ycH ybT (ycG s k t) F.entry_int_rmul (yc4 _ _) (int___rmul___int_list k t l its.toArray n)
   ⟨e,rfl,⟨_,e,rfl⟩,ycH F.slot_list_mul ⟨_,e,rfl⟩ F.entry_list_mul (F.args_list_mul_2 _ _) (AutoListH.list___mul___list_int_3 l its.toArray n k t hfit hcap hlong) ⟨e,?_⟩⟩)
 rw [hnew];exact ⟨.ref _,_,I.lnew (t':=s.toks) (r.rep k.toNat) (by rw [zjg,ybv];exact hz),rfl,q _ I.fresh⟩
end
end L2
namespace Att
open PySem PySem.W PySem.Calls PyProof.Rows
def zfY:∀(ns:List Int) (vs:List Value),WellAll P h vs (ns.map WData.int)->IntsAre vs ns:=by
 intro ns
 induction ns with
 | nil =>
  intro vs w;rw [List.map_nil] at w;cases w;exact .nil
 | cons n ns ih =>
  intro vs w;rw [yay] at w
  cases w with
  | cons a b =>
   cases a;exact .cons _ _ (ih _ b)
theorem zlP{l:OpenLaw}(hn:l.most=some n){P:Params}{h:Heap}
  (hpre:l.row.toRowW.claim.pre args=true) (hwl:WellAll P h vals args) :
  ∃a vs ns,vals=[Value.ref a]/\args=[WData.list (ns.map WData.int)]/\h.get? a=some { cls:=.type "list",data:=.seq vs.toArray }/\IntsAre vs ns/\ns.length<=n:=by
 have hsh:WShape.hasAll [] args [.list .int]=true:=(pre_splitW hpre).1;have hc:l.pre.holds [] { args:=args }=true:=(pre_splitW hpre).2;obtain ⟨d,r,rfl,h1,h2⟩:=hasAllW_cons hsh;obtain rfl:=hasAllW_nil h2;obtain ⟨xs,rfl,h3⟩:=hasW_list h1;obtain ⟨ns,rfl⟩:=items_int h3
 have hlen:ns.length<=n:=by
  unfold OpenLaw.pre at hc
  have h4:(WTm.not (.lt (.lit (.int (n:Int))) (.len (.arg 0)))).holds [] { args:=[.list (ns.map .int)] }=true:=by
   have h4:=(holds_andW hc).1;rwa [hn] at h4
  have h5:=condW_of h4 (w_not (w_lt w_lit (w_len_list (w_arg rfl))));rw [yae] at h5;refine Nat.le_of_not_lt fun q=>?_
  have q':(n:Int)<((ns.length:Nat):Int):=by omega
  first
   | (rw [yaD q'] at h5;exact absurd h5 (by decide))
   | (simp at h5;omega)
 cases hwl with
 | cons w1 w2 =>
  cases w2
  cases w1 with
  | list ho hall=>exact ⟨_,_,ns,rfl,rfl,ho,zfY ns _ hall,hlen⟩
def zl5(l:OpenLaw)(args:List WData):l.row.toRowW.claim.post args (.bool true) args=true :=
 postW_of (r:=l.row.toRowW) (X:=(true == true))
  (show WShape.has [] (.bool true) .bool=true by first | rfl | decide | simp [WShape.has,WShape.arms,WShape.armsAll])
  (show (WTm.eq .res (.lit (.bool true))).value [] { args:=args,res:=some (.bool true),after:=args }=some (.bool (true == true)) from w_eq_bool (w_res rfl) w_lit) rfl
def zjw{l:OpenLaw}{n:Nat}{q:Program}{loose:List Str}{XP:(Str->Option Value)->Heap->Prop}{YP:World->Heap->Prop}{d:DefRec}
  (hn:l.most=some n) (hdf:d.params.defaults=[])
  (call:∀(w:World) (s₀ s₁:Shared) (mg mb:Z6) (fa:Addr) (o:Obj) (pm cd doc:Value) (a:Addr) (vs:List Value) (ns:List Int),
   Ground q loose [] XP w s₀ mg mb s₁.heap->YP w s₁.heap →
   s₁.heap.get? fa=some o->o.data=.func (docDef d.name d.params d.body d.scope pm cd doc)->s₁.heap.CodeRec cd d.name->mg d.name=some (.ref fa) →
   s₁.heap.get? a=some { cls:=.type "list",data:=.seq vs.toArray }->IntsAre vs ns->ns.length<=n->s₁.gens=#[] →
   codeAny (model l.prog w) callerA (.call (.ref fa) ⟨[.ref a],[]⟩) (fun r s'=>r=.ok (.ret (.bool true))/\OldK s₁.heap s'.heap/\s'.os=s₁.os/\AllBare s'.gens) s₁) :
  WalkO q loose XP YP l.row.toRowW d [] (fun f vs=>PySem.call f vs):=by
 intro w s₀ s₁ mg mb G Y fa o pm cd doc dV kV ho hd hcd hD hmg hg args vals as hpre hlay hrd hwl hlo;obtain rfl:dV=.none:=Dflts.none hD hdf;obtain rfl:kV=.none:=Dflts.noKw hD;obtain ⟨a,vs,ns,rfl,rfl,hobj,hints,hlen⟩:=zlP hn hpre hwl;refine enter_call (ycv (call w s₀ s₁ mg mb fa o pm cd doc a vs ns G Y ho (fd_plain hd) hcd hmg hobj hints hlen hg) fun r s' hq=>?_);obtain ⟨rfl,h2,h3,h4⟩:=hq;exact ⟨.inl ⟨.bool true,.bool true,[],rfl,fun _=>rfl,.bool true,zl5 l _,fun _=>⟨List.Pairwise.nil,fun _ hm=>(nomatch hm)⟩⟩,h2,h3,h4⟩
end Att
namespace L2
open PySem PySem.Spec PyProof.Rows
theorem zhO:∀{vs:List Value} {ns:List Int},IntsAre vs ns->Vals (ns.map V.int) vs
 | _,_,.nil=>.nil
 | _,_,.cons n t h=>.cons ⟨t,rfl⟩ (zhO h)
noncomputable def zu6(H:Hp):Prop:=∀b,H b=none\/∃o xs,H b=some (.frz o (.lst xs))
def zow{P:Program}{w:World}{K:PySem.W.Frag}{mg mb:Z6}{CX:CXT}{k:Nat}{fa a:Addr}{fd:FuncData}{x:Str}{sp:Sp}{s₁:Shared}{vs:List Value}{ns:List Int}
  (KX:K.In s₁.heap) (hns:s₁.heap.Ns mainGlobals mg) (hb:s₁.heap.Ns builtinsNs mb) (hbb:∀x:Str,x ≠ "__name__" -> mb x=bootBuiltins x) (hlim:s₁.heap.NoLimit) (hg:s₁.gens=#[])
  (ha:s₁.heap.get? a=some { cls:=.type "list",data:=.seq vs.toArray }) (hi:IntsAre vs ns) (hl:ns.length<=sizeLine) (hr:Room k callerA)
  (F:∀base:Heap,K.In base->base.Ns mainGlobals mg->FnOk P w K mg base CX k fa fd [x] sp) (hbind:∀(s:Shared) (u:Value),BindsTo s fd ⟨[u],[]⟩ [(x,u)])
  (hsp:∀H:Hp,zu6 H->SqL K H a (ns.map V.int)->sp [.ref a] H (fun v _=>v=.bl true) fun _ _ _=>False)
  (hCX:∀H e s',CX [] H s₁ (fun _ _ _=>False) e s'->False) :
  codeAny (model P w) callerA (.call (.ref fa) ⟨[.ref a],[]⟩) (fun r s'=>r=.ok (.ret (.bool true))/\OldK s₁.heap s'.heap/\s'.os=s₁.os/\AllBare s'.gens) s₁:=by
 have rv:=zhO hi;have lenV:=hi.length
 have core:∀H:Hp,zu6 H->SqL K H a (ns.map V.int)->HOk P w H s₁.heap->(∀b,H b≠none->b=a)->(H a≠none->K.lookup a=none) →
   codeAny (model P w) callerA (.call (.ref fa) ⟨[.ref a],[]⟩) (fun r s'=>r=.ok (.ret (.bool true))/\OldK s₁.heap s'.heap/\s'.os=s₁.os/\AllBare s'.gens) s₁:=by
  intro H hO hS hok hA hK;have zer:∀{b:Addr} {o:Obj},s₁.heap.get? b=some o->H b=none->(zoH s₁.heap H).get? b=some o:=fun e n=>zoG e n
  have noA:∀{b:Addr} {o:Obj} {es:Array DictEntry} {ep:Nat},s₁.heap.get? b=some o->o.data=.dict es ep->H b=none:=fun {b o es ep} e d=>by
   cases q:H b with
   | none=>rfl
   | some u =>
    have e':b=a:=hA b (by rw [q];simp);subst e';rw [ha] at e;cases e;have d':Data.seq vs.toArray _=Data.dict es ep:=d;cases d'
  have nsK:∀{b:Addr} {m:Z6},s₁.heap.Ns b m->(zoH s₁.heap H).Ns b m:=fun {b m} ⟨o,es,ep,e,d,r⟩=>⟨o,es,ep,zer e (noA e d),d,r⟩
  have hKb:K.In (zoH s₁.heap H):=fun b o e=>zer (KX b o e) (by
   cases q:H b with
   | none=>rfl
   | some u =>
    have e':b=a:=hA b (by rw [q];simp);subst e'
    rw [hK (by rw [q];simp)] at e;cases e)
  have hM:Mod K mg (zoH s₁.heap H):=⟨hKb,nsK hns,⟨mb,nsK hb,hbb⟩,let ⟨mc,h1,h2⟩:=hlim;⟨mc,nsK h1,h2⟩⟩;have e0:Env0 P w K mg (zoH s₁.heap H) callerA [] s₁ H:=⟨rfl,hM,fun b o e=>zqN e,Nat.le_of_eq (zmO _ _),trivial,fun b hb=>absurd (show b∈([]:List Addr) from hb) (by simp),hok,.of_eq hg⟩;refine ycv ((F _ hKb (nsK hns)).run callerA [] s₁ H ⟨[.ref a],[]⟩ [.ref a] [.ref a] _ _ hr e0 (hbind s₁ (.ref a)) (.cons rfl .nil) (hsp H hO hS)) fun r s' h=>?_
  cases r with
  | error e=>exact (hCX H e s' h).elim
  | ok fl =>
   cases fl with
   | next=>exact False.elim h
   | brk=>exact False.elim h
   | cont=>exact False.elim h
   | ret u =>
    obtain ⟨v,H',os,bare,un,hok',r',q⟩:=h;have q':v=.bl true:=q;subst q';obtain rfl:u=Value.bool true:=r';refine ⟨rfl,OldK.of_keep fun b o e=>?_,os,bare⟩
    cases q:H b with
    | none=>exact un.keep b o e q (by intro z;exact absurd (show b∈([]:List Addr) from z) (by simp)) (by simp)
    | some u =>
     rcases hO b with z | ⟨ob,xs,z⟩
     ·rw [q] at z;cases z
     ·have z2:=un.frzs b ob _ z;obtain ⟨e1,_⟩:=hok b _ z;obtain ⟨e2,_⟩:=hok' b _ z2;rw [e] at e1;cases e1;exact e2
 cases hk:K.lookup a with
 | some o =>
  have e:=KX a o hk;rw [ha] at e;cases e;refine core (fun _=>none) (fun _=>.inl rfl) (.inr ⟨_,vs.toArray,_,hk,rfl,rfl,rfl,by rw [yag,lenV];exact hl,by simpa using rv⟩) (fun b u z=>by have z':(none:Option HO)=some u:=z;cases z') (fun b z=>absurd rfl z) fun z=>absurd rfl z
 | none =>
  refine core (fun b=>if b=a then some (.frz { cls:=.type "list",data:=.seq vs.toArray } (.lst (ns.map V.int))) else none) (fun b=>?_) (.inl (.inr ⟨{ cls:=.type "list",data:=.seq vs.toArray },if_pos rfl⟩)) (fun b u z=>?_) (fun b z=>?_) fun _=>hk
  ·by_cases hb:b=a
   ·exact .inr ⟨_,_,if_pos hb⟩
   ·exact .inl (if_neg hb)
  ·by_cases hb:b=a
   ·have z':=(if_pos hb).symm.trans z;cases z';subst hb;exact ⟨ha,by rw [yae];exact hl,vs,_,rv,ha⟩
   ·have z':=(if_neg hb).symm.trans z;cases z'
  ·by_cases hb:b=a
   ·exact hb
   ·exact absurd (if_neg hb) z
def zpS{l:PySem.W.OpenLaw}{n k:Nat}{d:DefRec}{K:Params->PySem.W.Frag}{CX:World->CXT}{sp:World->Sp}
  (hn:l.most=some n) (hn2:n<=sizeLine) (hdf:d.params.defaults=[]) (hr:Room k callerA)
  (hY:∀(w:World) (h:Heap),YP w h->(K w.params).In h)
  (F:∀(w:World) (mg:Z6) (fa:Addr) (h:Heap),(K w.params).In h->h.Ns mainGlobals mg->mg d.name=some (.ref fa) →
   ∃fd:FuncData,(∀(s:Shared) (u:Value),BindsTo s fd ⟨[u],[]⟩ [(x,u)]) ∧
    ∀base:Heap,(K w.params).In base->base.Ns mainGlobals mg->FnOk l.prog w (K w.params) mg base (CX w) k fa fd [x] (sp w))
  (hsp:∀(w:World) (H:Hp) (a:Addr) (ns:List Int),ns.length<=n->zu6 H->SqL (K w.params) H a (ns.map V.int)->sp w [.ref a] H (fun v _=>v=.bl true) fun _ _ _=>False)
  (hCX:∀(w:World) (H:Hp) (s:Shared) (e:Value) (s':Shared),CX w [] H s (fun _ _ _=>False) e s'->False) :
  PySem.W.WalkO q loose XP YP l.row.toRowW d [] (fun f vs=>PySem.call f vs):=by
 refine Att.zjw hn hdf fun w s₀ s₁ mg mb fa o pm cd doc a vs ns G Y ho hd hcd hmg hobj hints hlen hg=>?_
 have KX:=hY w _ Y;obtain ⟨fd,hb,hF⟩:=F w mg fa _ KX G.T.g hmg;exact zow KX G.T.g G.T.b G.T.builtins G.T.nolimit hg hobj hints (yak hlen hn2) hr hF hb (fun H hO hS=>hsp w H a ns hlen hO hS) fun H e s'=>hCX w H s₁ e s'
noncomputable def zbZ(s:Stmt):Arguments:=match s with
 | .FunctionDef _ a _ _ _ _ _ _ _ _=>a
 | _=>{ posonlyargs:=[],args:=[],vararg:=none,kwonlyargs:=[],kw_defaults:=[],kwarg:=none,defaults:=[] }
noncomputable def zbF(s:Stmt):List Stmt:=match s with
 | .FunctionDef _ _ b _ _ _ _ _ _ _=>b
 | _=>[]
noncomputable def zab(s:Stmt):Scope:=match s with
 | .FunctionDef _ _ _ _ _ _ sc _ _ _=>sc
 | _=>{ kind:=.function,names:=[],isGenerator:=false,isCoroutine:=false }
structure Fun(K:PySem.W.Frag)(x qual:Str)(st:Stmt)(f:Addr)(fd:FuncData):Prop where
 ex:∃(oc:Value) (od:Option Addr) (kV doc pm:Value) (an:Option Addr) (cdv ct:Value) (osl:Array (Option Value)),
  fd=PySem.W.fnOf x qual (zbZ st) (zbF st) (zab st) .none kV doc pm an cdv ct/\K.lookup f=some ⟨oc,od,.func fd,osl⟩/\PySem.W.codeIn K cdv qual=true
 kp:PySem.W.keepIn K (.ref f)=true
section
variable{P:Program}{w:World}{K:PySem.W.Frag}{mg:Z6}{base:Heap}
def Fun.binds{x qual:Str}{st:Stmt}{f:Addr}{fd:FuncData}{ps:List Str}(F:Fun K x qual st f fd)
  (h:∀(kV doc pm:Value) (an:Option Addr) (cdv ct:Value) (us:List Value),us.length=ps.length->bindArgs (PySem.W.fnOf x qual (zbZ st) (zbF st) (zab st) .none kV doc pm an cdv ct) ⟨us,[]⟩=pure (ps.zip us)):zcA K fd ps []:=by
 obtain ⟨oc,od,kV,doc,pm,an,cdv,ct,osl,rfl,lk,hcd⟩:=F.ex;exact .all (h kV doc pm an cdv ct)
def zpE{x qual:Str}{st:Stmt}{f:Addr}{oc:Value}{od an:Option Addr}{osl:Array (Option Value)}{kV doc pm cdv ct:Value}(l:K.lookup f=some ⟨oc,od,.func (PySem.W.fnOf x qual (zbZ st) (zbF st) (zab st) .none kV doc pm an cdv ct),osl⟩)
  (c:PySem.W.codeIn K cdv qual=true) (k:PySem.W.keepIn K (.ref f)=true):Fun K x qual st f (PySem.W.fnOf x qual (zbZ st) (zbF st) (zab st) .none kV doc pm an cdv ct):=⟨⟨oc,od,kV,doc,pm,an,cdv,ct,osl,rfl,l,c⟩,k⟩
end
def zoC{A B:Prop}(h:B):if false=true then A else B:=by
 rw [if_neg yba];exact h
def zoB{A B:Prop}(h:A):if true=true then A else B:=by
 rw [if_pos rfl];exact h
def zlf(h:∀y∈scope.names,y.2=.free->∃c,env.cells.lookup y.1=some c) :
  ∃cl,closureFor scope env=pure cl/\(∀y c,cl.lookup y=some c->env.cells.lookup y=some c)/\∀y,(y,NameKind.free)∈scope.names->∃c,cl.lookup y=some c:=by
 unfold closureFor
 have key:∀(l:List (Str×NameKind)) (cs:List (Str×Addr)),(∀y∈l,y.2=.free->∃c,env.cells.lookup y.1=some c)->(∀y c,cs.lookup y=some c->env.cells.lookup y=some c) →
   ∃cl,(forIn l cs fun (x:Str×NameKind) (r:List (Str×Addr))=>(if (x.2 == NameKind.free)=true then (do let c ← cellOf env x.1;pure (ForInStep.yield ((x.1,c)::r))) else pure (ForInStep.yield r):Sem (ForInStep (List (Str×Addr)))))=pure cl ∧
    (∀y c,cl.lookup y=some c->env.cells.lookup y=some c)/\(∀y,(y,NameKind.free)∈l->∃c,cl.lookup y=some c)/\(∀y c,cs.lookup y=some c->∃c',cl.lookup y=some c'):=by
  intro l
  induction l with
  | nil=>intro cs _ hc;exact ⟨cs,rfl,hc,fun y hy=>by simp at hy,fun y c e=>⟨c,e⟩⟩
  | cons p l ih =>
   intro cs hl hc;obtain ⟨n,k⟩:=p
   by_cases hk:(k == NameKind.free)=true
   ·have ek:k=.free:=eq_of_beq hk;obtain ⟨c,ec⟩:=hl (n,k) yaw ek
    obtain ⟨cl,e1,e2,e3,e4⟩:=ih ((n,c)::cs) (fun y hy=>hl y (yao _ hy)) (fun y c' e=>by
     rw [yaE] at e
     cases hq:y == n with
     | true=>rw [hq] at e;cases e;rw [eq_of_beq hq];exact ec
     | false=>rw [hq] at e;exact hc y c' e)
    refine ⟨cl,?_,e2,fun y hy=>?_,fun y c' e=>?_⟩
    ·rw [ycM];show ((if (k == NameKind.free)=true then _ else _) >>= _)=_;rw [if_pos hk]
     have ecell:cellOf env n=pure c:=by unfold cellOf;rw [ec]
     show (cellOf env n >>= _) >>= _=_;rw [ecell];simpa using e1
    ·rcases yaA.mp hy with z | hy
     ·cases z;exact e4 n c (by rw [yaE];simp)
     ·exact e3 y hy
    ·cases hq:y == n with
     | true=>exact e4 y c (by rw [yaE,hq])
     | false=>exact e4 y c' (by rw [yaE,hq];exact e)
   ·obtain ⟨cl,e1,e2,e3,e4⟩:=ih cs (fun y hy=>hl y (yao _ hy)) hc;refine ⟨cl,?_,e2,fun y hy=>?_,e4⟩
    ·rw [ycM];show ((if (k == NameKind.free)=true then _ else _) >>= _)=_;rw [if_neg hk];simpa using e1
    ·rcases yaA.mp hy with z | hy
     ·cases z;exact absurd rfl hk
     ·exact e3 y hy
 obtain ⟨cl,e1,e2,e3,_⟩:=key scope.names [] h (fun y c e=>by simp at e);refine ⟨cl,?_,e2,e3⟩;show ((forIn scope.names [] _:Sem (List (Str×Addr))) >>= _)=_;have e1':=congrArg (fun m=>m >>= (pure:List (Str×Addr)->Sem (List (Str×Addr)))) e1;simpa using e1
noncomputable def PIf(X:Cx)(ifs:List Expr)(t:TT):Prop :=
 ∀(pins:Z3) (s:Shared) (σ:St) (H:Hp) (Q:Bool->Hp->Prop),Inv X pins σ H s->t σ H Q →
  wpAny (model X.prog X.w) X.A (forIn ifs true fun c r=>if r=true then do let ok ← isTrue c X.env (eval c X.env);pure (ForInStep.yield ok) else pure (ForInStep.yield r)) (TP X pins σ Q) X.xe s
noncomputable def zzr:TT:=fun _ H Q=>Q true H
def zqC:PIf X [] zzr:=fun _ _ _ H _ I h=>wpAny_tests_nil ⟨H,I,h⟩
def zqB(h:PT X c t):PIf X [c] t:=fun pins s σ H Q I hw=>wpAny_tests_one (h pins s σ H Q I hw)
theorem zfe{scope:Scope}{env:Env}:∀{names:List (Str×NameKind)} {y:Str},(y,NameKind.free)∈names->(∀z∈names,z.1=y->z.2=.free) →
  (names.map fun (n,k)=>if (k == NameKind.free&&env.scope.kind == .function&&env.kindOf n == some .cell) then (n,NameKind.cell) else (n,k)).lookup y=some .cell ∨
  (names.map fun (n,k)=>if (k == NameKind.free&&env.scope.kind == .function&&env.kindOf n == some .cell) then (n,NameKind.cell) else (n,k)).lookup y=some .free
 | [],_,h,_=>by simp at h
 | (n,k)::r,y,h,u=>by
  rw [yay];show List.lookup y ((if (k == NameKind.free&&env.scope.kind == .function&&env.kindOf n == some .cell)=true then (n,NameKind.cell) else (n,k))::_)=_\/List.lookup y ((if (k == NameKind.free&&env.scope.kind == .function&&env.kindOf n == some .cell)=true then (n,NameKind.cell) else (n,k))::_)=_
  cases hq:y == n with
  | true =>
   have e:n=y:=(eq_of_beq hq).symm;have ek:k=.free:=u (n,k) yaw e
   by_cases hc:(k == NameKind.free&&env.scope.kind == .function&&env.kindOf n == some .cell)=true
   ·rw [if_pos hc];left;simp [yaE,hq]
   ·rw [if_neg hc];right;simp [yaE,hq,ek]
  | false =>
   have hy:(y,NameKind.free)∈r:=by
    rcases yaA.mp h with z | z
    ·cases z;simp at hq
    ·exact z
   have ih:=zfe (scope:=scope) (env:=env) hy fun z hz=>u z (yao _ hz)
   by_cases hc:(k == NameKind.free&&env.scope.kind == .function&&env.kindOf n == some .cell)=true
   ·rw [if_pos hc];simpa [yaE,hq] using ih
   ·rw [if_neg hc];simpa [yaE,hq] using ih
def Inv.track(I:Inv X pins σ H s)(hn:H D=none)(h1:X.s₀.heap.objs.size<=D)(h2:D≠X.env.locals)(h3:∀x c,X.env.cells.lookup x=some c->c≠D)(h4:∀p∈X.pn++pins,p.1≠D)
  (new:zb8 X.prog X.w (upd H D o) s.heap D o):Inv X pins σ (upd H D o) s:=by
 have nD:∀b u,H b=some u->b≠D:=fun b u e=>zaF e hn
 obtain ⟨h',g',d',t',o'⟩:=s;refine I.step (h':=h') (g':=g') (d':=d') (t':=t') (ch:=[D]) (fun b hb=>?_) (fun b o _ _ _ e _=>e) (fun b o _ _ _ e _=>⟨o.slots,e⟩) (fun b o hc e n=>?_) (fun b o _ e=>⟨o,e⟩) (fun b xs e=>?_) (fun b o u e=>?_) (fun b ps e=>?_) (fun m hm=>hm) (fun b u e=>?_) I.bare
 ·have e:b=D:=by simpa using hb
  subst e;exact ⟨.inr h1,h2,h3,h4⟩
 ·rw [zau (fun z=>hc (by simp [z]))];exact n
 ·rw [zau (nD _ _ e)];exact e
 ·rw [zau (nD _ _ e)];exact e
 ·exact ⟨#[],by rw [zau (nD _ _ e),e];simp⟩
 ·by_cases hb:b=D
  ·subst hb;rw [zaM] at e;cases e;exact new
  ·rw [zau hb] at e
   exact (I.hok b u e).stay (fun _ _ _ q=>q) (fun c q=>by rw [zau (nD _ _ q)];exact q) fun c xs q=>by rw [zau (nD _ _ q)];exact q
section
variable{X:Cx}{elt iter:Expr}{x:Str}{px pos:Pos}{ifs:List Expr}{scope:Scope}{caps:List (Str×Nat)}{wi:TI}{tt:TT}{te:TE}
noncomputable abbrev lob(its:List Value)(k:Nat):Obj:={ cls:=.type "list",data:=.seq its.toArray k }
end
section
variable{prog:Program}{w:World}{A:Around}{R:Result->Shared->Prop}{s:Shared}
theorem zot(I:Nat->Shared->Prop)
  (turn:∀n s,I n s->wpAny (model prog w) A (pyNext it) (fun r s₁=>match r with
   | none=>R (.ok .next) s₁
   | some v=>wpAny (model prog w) A (letOwnedTupleGo target it v) (fun _ s₀=>wpAny (model prog w) A (assign target env v) (fun _ s₂ =>
     wpAny (model prog w) A (forIn ifs true fun c r=>if r=true then do let ok ← isTrue c env (eval c env);pure (ForInStep.yield ok) else pure (ForInStep.yield r)) (fun ok s₃ =>
      if ok=true then wpAny (model prog w) A (eval elt env) (fun x s₄ =>
       wpAny (model prog w) A (call (.builtin "list.append") [acc,x]) (fun _ s₅=>∃m,m<n/\I m s₅) (notedBy (model prog w) A env fun e s'=>R (.error e) s') s₄) (notedBy (model prog w) A env fun e s'=>R (.error e) s') s₃
      else ∃m,m<n/\I m s₃) (notedBy (model prog w) A env fun e s'=>R (.error e) s') s₂) (notedBy (model prog w) A env fun e s'=>R (.error e) s') s₀) (notedBy (model prog w) A env fun e s'=>R (.error e) s') s₁) (notedBy (model prog w) A env fun e s'=>R (.error e) s') s)
  (n:Nat) (h:I n s):codeAny (model prog w) A (.compLoop (.ListComp elt [⟨target,iter,ifs,0⟩] scope pos) 0 it acc env) R s:=by
 refine codeAny_loop rfl I (fun n s hI=>?_) n h;show wpAny _ A ((compTurn (.ListComp elt [⟨target,iter,ifs,0⟩] scope pos) 0 it acc env).onRaise (fun x=>do noteFrame x env;theTreesLotGoes x)) _ _ s;refine wpAny_noted ?_;rw [compTurn_list];refine yad (wpAny_standAt (yad (ybE (turn n s hI) (fun r s₁ h₁=>?_) fun _ _ h'=>h')))
 cases r with
 | none=>exact yaj h₁
 | some v =>
  refine yad (ybE h₁ (fun _ s₀ h₀=>?_) fun _ _ h'=>h');refine yad (ybE h₀ (fun _ s₂ h₂=>yad (ybE h₂ (fun ok s₃ h₃=>?_) fun _ _ h'=>h')) fun _ _ h'=>h')
  cases ok with
  | false=>exact yaj ⟨rfl,h₃⟩
  | true =>
   exact yad (yad (ybE h₃ (fun x s₄ h₄=>yad (ybE h₄ (fun _ s₅ h₅=>yaj (yaj ⟨rfl,h₅⟩)) fun _ _ h'=>h')) fun _ _ h'=>h'))
end
theorem zbr:∀(names:List (Str×NameKind)) (n:Nat) (acc:List (Str×Addr)),cellsFrom n names acc=cellsFrom n names []++acc
 | [],_,_=>rfl
 | (x,k)::r,n,acc=>by
  unfold cellsFrom;split
  ·rw [zbr r (n+1) ((x,n)::acc),zbr r (n+1) [(x,n)]];simp
  ·exact zbr r n acc
theorem zdi:∀(names:List (Str×NameKind)) (n:Nat) {x:Str} {c:Addr},(x,c)∈cellsFrom n names []->(x,NameKind.cell)∈names
 | [],_,_,_,h=>by cases h
 | (y,k)::r,n,x,c,h=>by
  unfold cellsFrom at h;split at h
  ·rename_i hk;rw [zbr] at h
   rcases ybr.mp h with h | h
   ·exact yao _ (zdi r _ h)
   ·rw [yaF] at h;cases h;rw [ycq.mp hk];exact yaw
  ·exact yao _ (zdi r _ h)
theorem zcm{α:Type}:∀{l m:List (Str×α)},(l++m).lookup x=(l.lookup x).or (m.lookup x)
 | [],m=>rfl
 | (y,a)::l,m=>by
  rw [List.cons_append,yaE,yaE]
  cases x == y with
  | true=>rfl
  | false=>exact zcm
theorem zcg:∀(names:List (Str×NameKind)) (n:Nat) {x:Str},(x,NameKind.cell)∈names->∃c,(cellsFrom n names []).lookup x=some c
 | [],_,_,h=>by cases h
 | (y,k)::r,n,x,h=>by
  unfold cellsFrom;split
  ·rename_i hk;rw [zbr,zcm]
   rcases yaA.mp h with e | h
   ·cases e
    cases hq:(cellsFrom (n+1) r []).lookup y with
    | some c=>exact ⟨c,rfl⟩
    | none=>exact ⟨n,by simp [yaE]⟩
   ·obtain ⟨c,e⟩:=zcg r (n+1) h;rw [e];exact ⟨c,rfl⟩
  ·rename_i hk
   rcases yaA.mp h with e | h
   ·cases e;exact absurd rfl hk
   ·exact zcg r n h
def zcJ{M:Model}{A:Around}{E:Z5}{s:Shared}{scope:Scope}{globals:Addr}{closure:List (Str×Addr)}{qual:Str}{func:Option Addr}{code:Value}{outer:Env}{builtins:Addr}{Q:Env->Shared->Prop}
  (hQ:∀h',h'.Ns s.heap.objs.size (fun _=>none)->(∀b o,s.heap.get? b=some o->h'.get? b=some o)->CellsOk h' (s.heap.objs.size+1) (cellsFrom (s.heap.objs.size+1) scope.names []) →
   Q (newEnv scope s.heap.objs.size globals (cellsFrom (s.heap.objs.size+1) scope.names []++closure) qual func code (some outer) builtins) { s with heap:=h' }) :
  wpAny M A (newFunctionEnv scope globals closure [] qual func code (some outer) builtins) Q E s:=by
 simp only [newFunctionEnv,Option.isSome_some,yb4];refine yad (wpAny_alloc ?_);refine yad (wpAny_layCells _ (fun name kind cells=>by cases hkc:kind == NameKind.cell<;>simp [hkc]) _ _ _ _ ?_);have ok:=cellsFrom_ok scope.names (s.heap.push { cls:=.type "dict",data:=.dict #[] }) (s.heap.objs.size+1) [] ⟨fun _ _ hm=>(nomatch hm),List.Pairwise.nil⟩ (by rw [yaZ];exact yam _);rw [yaZ] at ok;rw [show ({ s with heap:=s.heap.push { cls:=.type "dict",data:=.dict #[] } }:Shared).heap.objs.size=s.heap.objs.size+1 from yaZ ..];rw [zbr];simp only [List.forIn_nil];refine yad (yaj (yaj ?_));exact hQ _ ((Heap.Ns.new s.heap (.type "dict")).keeps (pushCells_keeps _ _)) (fun b o e=>pushCells_keeps _ _ b o (yaf _ e)) ok
structure CompScopeG(sc scope:Scope)(N:List Str)(xs:List Str)(caps:List (Str×Nat)):Prop where
 nd:(scope.names.map (·.1)).Nodup
 kind:scope.kind=.function
 names:∀y∈scope.names,y.2=.local->scope.names.lookup y.1=some .local
 free:∀y∈scope.names,y.2=.free->sc.names.lookup y.1=some .cell\/sc.names.lookup y.1=some .free
 cap:∀p∈caps,N[p.2]?=some p.1/\(p.1,NameKind.free)∈scope.names/\sc.names.lookup p.1≠some .local
 uniq:∀p∈caps,∀z∈scope.names,z.1=p.1->z.2=.free
noncomputable def zbu(X:Cx)(xs:List Str)(caps:List (Str×Nat))(scope:Scope)(cl:List (Str×Addr))(C:Addr)(s:Shared)(H:Hp)(ex:List Addr):Cx :=
 { X with N:=xs++caps.map (·.1),s₀:=s,H₀:=H,env:=compEnvC scope cl C X.env,outer:=X.stack,ex:=ex,fn:=fun x=>decide (scope.names.lookup x=some .cell),pn:=[],xe:=fun _ _=>False }
noncomputable abbrev capσ(σ:St)(n:Nat)(caps:List (Str×Nat)):St:=List.replicate n none++caps.map fun p=>(σ[p.2]?).join
noncomputable def zjH(wi:TI)(g:TG)(tt:TT)(te:TE)(n:Nat)(caps:List (Str×Nat)):TE:=fun σ H Q=>wi σ H fun J H1=>∃W:Nat->Nat->List V->St->Hp->Prop,(∃m,W 0 m [] (capσ σ n caps) H1)/\∀i m ys σ' H,W i m ys σ' H →
 ys.length<=sizeLine/\((J.stop i H/\∀p,H p=none->Q (.ref p) (upd H p (.lst ys))) ∨
 (J.go i H/\∀x H',J.yld i H x H'->g x σ' H' fun σ2 H2=>tt σ2 H2 fun ok H3=>if ok=true then te σ2 H3 fun y H4=>∃m',m'<m/\W (i+1) m' (ys++[y]) σ2 H4 else ∃m',m'<m/\W (i+1) m' ys σ2 H3))
section
variable{X:Cx}{elt iter tg:Expr}{xs:List Str}{pos:Pos}{ifs:List Expr}{scope:Scope}{caps:List (Str×Nat)}{wi:TI}{g:TG}{tt:TT}{te:TE}
structure OwnC(X:Cx)(scope:Scope)(lo:Nat)(h:Heap)(cl:List (Str×Addr)):Prop where
 sort:∀y c,cl.lookup y=some c->X.env.cells.lookup y=some c\/(h.IsCell c none/\lo<=c)
 inj:∀y z c,cl.lookup y=some c->cl.lookup z=some c->y=z
 has:∀y,((y,NameKind.free)∈scope.names\/(y,NameKind.cell)∈scope.names)->∃c,cl.lookup y=some c
 own:∀y c,scope.names.lookup y=some .cell->cl.lookup y=some c->lo<=c
 free:∀y,(y,NameKind.free)∈scope.names->∃c,cl.lookup y=some c/\X.env.cells.lookup y=some c
def zie(h:(relabel scope env).names.lookup y=some .cell\/(relabel scope env).names.lookup y=some .free):(y,NameKind.free)∈scope.names\/(y,NameKind.cell)∈scope.names:=by
 have go:∀k,(relabel scope env).names.lookup y=some k->(k=.cell\/k=.free)->(y,NameKind.free)∈scope.names\/(y,NameKind.cell)∈scope.names:=fun k e hk=>by
  have hm:=yaL e;obtain ⟨⟨n,k0⟩,hp,e2⟩:=yat.mp hm
  by_cases hq:(k0 == .free&&env.scope.kind == .function&&env.kindOf n == some .cell)=true
  ·have e3:(n,NameKind.cell)=(y,k):=by rw [<-e2];show _=if _ then _ else _;rw [if_pos hq]
   cases e3
   have:k0=.free:=by simp only [yac] at hq;exact eq_of_beq hq.1.1
   subst this;exact .inl hp
  ·have e3:(n,k0)=(y,k):=by rw [<-e2];show _=if _ then _ else _;rw [if_neg hq]
   cases e3
   rcases hk with rfl | rfl
   ·exact .inr hp
   ·exact .inl hp
 rcases h with h | h
 ·exact go _ h (.inl rfl)
 ·exact go _ h (.inr rfl)
theorem ziq:∀{l:List (Str×NameKind)},(l.map (·.1)).Nodup->∀{x:Str} {a b:NameKind},(x,a)∈l->(x,b)∈l->a=b
 | [],_,_,_,_,h,_=>by cases h
 | p::l,nd,x,a,b,h,h'=>by
  rw [yay,ybz] at nd
  rcases yaA.mp h with h | h<;>rcases yaA.mp h' with h' | h'
  ·rw [<-h'] at h;exact (Prod.mk.inj h).2
  ·exact absurd (yat.mpr ⟨_,h',by rw [<-h]⟩) nd.1
  ·exact absurd (yat.mpr ⟨_,h,by rw [<-h']⟩) nd.1
  ·exact ziq nd.2 h h'
def zmd{X:Cx}{scope:Scope}{lo n:Nat}{h:Heap}{cl:List (Str×Addr)}(nd:(scope.names.map (·.1)).Nodup)(hn:lo<=n)(hinj:∀x y c,X.env.cells.lookup x=some c->X.env.cells.lookup y=some c->x=y)
  (hcl:∀y c,cl.lookup y=some c->X.env.cells.lookup y=some c) (hlo:∀y c,X.env.cells.lookup y=some c->c<lo) (hhas:∀y,(y,NameKind.free)∈scope.names->∃c,cl.lookup y=some c) (ok:CellsOk h n (cellsFrom n scope.names [])) :
  OwnC X scope lo h (cellsFrom n scope.names []++cl):=by
 have sort:∀y c,(cellsFrom n scope.names []++cl).lookup y=some c->((cellsFrom n scope.names []).lookup y=some c)\/((cellsFrom n scope.names []).lookup y=none/\cl.lookup y=some c):=fun y c e=>by
  rw [zcm] at e
  cases hq:(cellsFrom n scope.names []).lookup y with
  | some c'=>rw [hq] at e;exact .inl e
  | none=>rw [hq] at e;exact .inr ⟨rfl,e⟩
 refine ⟨fun y c e=>?_,fun y z c e e'=>?_,fun y hy=>?_,fun y c hy e=>?_,fun y hy=>?_⟩
 ·rcases sort y c e with z | ⟨_,z⟩
  ·have:=ok.empty y c (yaL z);exact .inr ⟨this.1,yak hn this.2⟩
  ·exact .inl (hcl y c z)
 ·rcases sort y c e with a | ⟨_,a⟩<;>rcases sort z c e' with b | ⟨_,b⟩
  ·exact name_of_addr ok.apart (yaL a) (yaL b)
  ·have h1:=(ok.empty y c (yaL a)).2;have h2:=hlo z c (hcl z c b);exact absurd (yaq h2 (yak hn h1)) (ya2 _)
  ·have h1:=(ok.empty z c (yaL b)).2;have h2:=hlo y c (hcl y c a);exact absurd (yaq h2 (yak hn h1)) (ya2 _)
  ·exact hinj y z c (hcl y c a) (hcl z c b)
 ·rw [zcm]
  cases hq:(cellsFrom n scope.names []).lookup y with
  | some c=>exact ⟨c,rfl⟩
  | none =>
   rcases hy with hy | hy
   ·exact hhas y hy
   ·obtain ⟨c,e⟩:=zcg scope.names n hy;rw [hq] at e;cases e
 ·obtain ⟨c',e'⟩:=zcg scope.names n (yaL hy);rw [zcm,e'] at e;have:c'=c:=Option.some.inj e;subst this;exact yak hn (ok.empty y c' (yaL e')).2
 ·obtain ⟨c,e⟩:=hhas y hy;refine ⟨c,?_,hcl y c e⟩;rw [zcm]
  cases hq:(cellsFrom n scope.names []).lookup y with
  | some c' =>
   have:=zdi scope.names n (yaL hq);cases ziq nd hy this
  | none=>exact e
theorem zm6(S:CompScopeG X.env.scope scope X.N xs caps)(hu:∀p∈caps,∀z∈scope.names,z.1=p.1->z.2=.free)
  (I:Inv X pins σ H s) (hcl:OwnC X scope s.heap.objs.size s'.heap cl)
  (hf:∀b∈fp,znv X pins H b) (hlt:∀b∈fp,b<s.heap.objs.size) (hC:s.heap.objs.size<=C) (ho:s'.os=s.os) (hg:s'.gens=s.gens) (hk:∀b o,s.heap.get? b=some o->s'.heap.get? b=some o) (hn:s'.heap.Ns C (fun _=>none)) :
  Inv (zbu X xs caps scope cl C s H fp) [] (capσ σ xs.length caps) H s':=by
 have cellK:∀y c,cl.lookup y=some c->∃v,s'.heap.IsCell c v:=fun y c e=>by
  rcases hcl.sort y c e with z | z
  ·obtain ⟨v,o,q,d⟩:=I.cell y c z;exact ⟨v,o,hk _ _ q,d⟩
  ·exact ⟨none,z.1⟩
 refine ⟨⟨I.ok.mod,S.kind,I.ok.glob,I.ok.blt,hC,hcl.inj,fun y hy=>hcl.has y (zie hy),fun y c z e=>hcl.own y c (yar z) e,I.ok.hd,I.ok.frames,.inl rfl,fun b hb=>⟨yaz (yaq (hlt b hb) hC),fun y c e=>(hcl.sort y c e).elim (fun z=>(hf b hb).2.2.2.2.1 y c z) fun z=>ya3 (yaq (hlt b hb) z.2)⟩,
  I.bs,yak I.ok.bsz I.sz,fun b o e hb=>?_,fun b hb hm=>?_,I.stack,I.stkFree⟩,ho,by rw [hg];exact I.bare,Un.kept hk,⟨_,hn,fun i y v h1 h2 h3=>?_⟩,fun y c e=>cellK y c e,I.hok.fresh hC,fun y c e=>(hcl.sort y c e).elim (I.freeC y c) fun z=>I.hok.fresh z.2,fun p hp=>absurd (show p∈([]:Z3) from hp) (by simp),I.hok.kept hk,?_⟩
 ·rcases (hf b hb).2.2.2.1 with z | z
  ·exact I.ok.noex b o e z
  ·exact absurd (yaq (yas e) (yak I.ok.bsz z)) (ya2 _)
 ·rcases yaA.mp (I.stkSub b hm) with z | z
  ·exact (hf b hb).2.1 z
  ·exact (hf b hb).2.2.1 z
 ·have hi:¬ i<xs.length:=fun hi=>by
   have h2':(capσ σ xs.length caps)[i]?=some (some v):=h2;rw [yax (by rw [yaC];exact hi),ya7] at h2'
   split at h2'<;>cases h2'
  ·have h1':(caps.map (·.1))[i-xs.length]?=some y:=by
    have h1':(xs++caps.map (·.1))[i]?=some y:=h1;rwa [yap (by omega)] at h1'
   rw [yal] at h1'
   have h2':(caps.map fun p=>(σ[p.2]?).join)[i-xs.length]?=some (some v):=by
    have h2':(capσ σ xs.length caps)[i]?=some (some v):=h2;rw [yap (by rw [yaC];omega),yaC] at h2';exact h2'
   rw [yal] at h2'
   cases hp:caps[i-xs.length]? with
   | none=>rw [hp] at h1';cases h1'
   | some p =>
    rw [hp] at h1' h2';have ey:p.1=y:=Option.some.inj h1';have ev:(σ[p.2]?).join=some v:=Option.some.inj h2';subst ey;have hmem:p∈caps:=ybL hp;obtain ⟨c1,c2,c3⟩:=S.cap p hmem
    have eσ:σ[p.2]?=some (some v):=by
     cases q:σ[p.2]? with
     | none=>rw [q] at ev;cases ev
     | some w=>rw [q] at ev;have:w=some v:=ev;rw [this]
    have hfr:=S.free _ c2 rfl;have hv:Vis X.env.scope p.1:=hfr.elim (fun z=>.inr (.inl z)) (fun z=>.inr (.inr z));obtain ⟨m,_,hl⟩:=I.loc;obtain ⟨u,r,l⟩:=hl p.2 p.1 v c1 eσ hv;refine ⟨u,r,.inr ⟨zfe (scope:=scope) (env:=X.env) c2 (hu p hmem),?_⟩⟩;obtain ⟨c,ec,ec2⟩:=hcl.free p.1 c2;refine ⟨c,ec,?_⟩
    rcases l with ⟨z,_⟩ | ⟨_,c',ec',hcell⟩
    ·exact absurd z c3
    ·have:c'=c:=by rw [ec2] at ec';exact (Option.some.inj ec').symm
     subst this;obtain ⟨o,q,d⟩:=hcell;exact ⟨o,hk _ _ q,d⟩
 ·simp [zbu,capσ]
theorem ziP{use:Option (Value->Sem Unit)}{Qf:Z5}{R:VK}{pins:Z3}{s:Shared}{σ:St}{H:Hp}(hc:X.calm=true)(S:CompScopeG X.env.scope scope X.N xs caps)(hi:PI X tg iter wi)(hg:∀cl C s H fp,PG (zbu X xs caps scope cl C s H fp) tg g)
  (ht:∀cl C s H fp,PIf (zbu X xs caps scope cl C s H fp) ifs tt) (he:∀cl C s H fp,PE (zbu X xs caps scope cl C s H fp) elt te)
  (hs:∀v,foldedSetIterable iter X.env v=pure v) (I:Inv X pins σ H s) (h:zjH wi g tt te xs.length caps σ H R)
  (fin:∀(D C:Addr) (s4:Shared) (m4:Z6) (H6:Hp) (r:Flow),s4.heap.Ns C m4->(∀{σ':St} {H7:Hp} {s5:Shared} {h':Heap},Inv X pins σ' H7 s5->Heap.SameBut C s5.heap h'->H7 C=none->Inv X pins σ' H7 { s5 with heap:=h' })->H6 C=none->C≠X.env.locals->(∀y c,X.env.cells.lookup y=some c->C≠c)->Inv X pins σ H6 s4->R (.ref D) H6->compPost (model X.prog X.w) X.A X.xe use Qf (.ref D) C (.ok r) s4) :
  wpAny (model X.prog X.w) X.A (comprehension (.ListComp elt [⟨tg,iter,ifs,0⟩] scope pos) scope X.env (firstIterPos [⟨tg,iter,ifs,0⟩] pos) (newList []) false (eval iter X.env) use) Qf X.xe s:=by
 obtain ⟨cl,hclos,hcl,hhas⟩:=zlf (scope:=scope) (env:=X.env) fun y hy hf=>I.ok.has y.1 (S.free y hy hf)
 refine wpAny_comprehension_free (use:=use) rfl hs hclos S.kind S.names (thn (hi pins s σ H _ I h) fun v s1 h1=>thn h1 fun itv s2 h2=>?_);obtain ⟨it,fp,tn,J,H2,rfl,I2,T,st2,f2,W,⟨m0,w0⟩,turn⟩:=h2;refine ybo (zcJ (fun h₁ hns₁ hsb₁ hok₁=>?_));dsimp only at hns₁ hsb₁ hok₁ ⊢;generalize hHp:s2.heap.push { cls:=.type "list",dict:=none,data:=.seq ([]:List Value).toArray }=Hq at hns₁ hsb₁ hok₁ ⊢
 have hCe:Hq.objs.size=s2.heap.objs.size+1:=by rw [<-hHp,yaZ]
 have hDC:s2.heap.objs.size≠Hq.objs.size:=by rw [hCe];exact yaz (ybF _)
 have hC:s2.heap.objs.size<=Hq.objs.size:=by rw [hCe];exact yb5 _
 have old:∀b o,s2.heap.get? b=some o->h₁.get? b=some o:=fun b o e=>hsb₁ b o (hHp ▸ yaf _ e)
 have hacc:h₁.get? s2.heap.objs.size=some (lob [] 0):=hsb₁ _ _ (hHp ▸ yau _ rfl)
 have cellX:∀y c,X.env.cells.lookup y=some c->c<s2.heap.objs.size:=fun y c e=>by obtain ⟨v,q⟩:=I2.cell y c e;exact q.lt
 have oc:=zmd (X:=X) (lo:=s2.heap.objs.size+1) S.nd (by rw [hCe];exact yb5 _) I.ok.inj hcl (fun y c e=>ycs (cellX y c e)) hhas hok₁;generalize hcl2:cellsFrom (Hq.objs.size+1) scope.names []++cl=cl2 at oc ⊢;have oc':OwnC X scope s2.heap.objs.size h₁ cl2:=⟨fun y c e=>(oc.sort y c e).imp id fun z=>⟨z.1,yc5 z.2⟩,oc.inj,oc.has,fun y c a e=>yc5 (oc.own y c a e),oc.free⟩
 have hlt:∀b∈fp,b<s2.heap.objs.size:=fun b hb=>by obtain ⟨o,e,_⟩:=T.obj 0 _ st2 b hb;exact yas e
 generalize hY:zbu X xs caps scope cl2 Hq.objs.size s2 H2 fp=Y;have PEY:PE Y elt te:=hY ▸ he cl2 _ s2 H2 fp;have PIY:PIf Y ifs tt:=hY ▸ ht cl2 _ s2 H2 fp;have PGY:PG Y tg g:=hY ▸ hg cl2 _ s2 H2 fp
 have I3:Inv Y [] (capσ σ xs.length caps) H2 { s2 with heap:=h₁ }:=by
  rw [<-hY];exact zm6 S S.uniq I2 oc' f2 hlt hC rfl rfl old hns₁
 have eYenv:Y.env=compEnvC scope cl2 Hq.objs.size X.env:=by rw [<-hY];rfl
 have eYloc:Y.env.locals=Hq.objs.size:=by rw [eYenv];rfl
 have eYfs:Y.fs=frs X.stack:=by rw [<-hY];rfl
 have eYprog:Y.prog=X.prog:=by rw [<-hY];rfl
 have eYw:Y.w=X.w:=by rw [<-hY];rfl
 have eYK:Y.K=X.K:=by rw [<-hY];rfl
 have eYA:Y.A=X.A:=by rw [<-hY];rfl
 have eYc:Y.calm=true:=by rw [<-hY];exact hc
 have eYex:Y.ex=fp:=by rw [<-hY];rfl
 have eYs:Y.s₀=s2:=by rw [<-hY];rfl
 have eYH:Y.H₀=H2:=by rw [<-hY];rfl
 have eYpn:Y.pn=[]:=by rw [<-hY];rfl
 have eYcell:∀y c,Y.env.cells.lookup y=some c->X.env.cells.lookup y=some c\/s2.heap.objs.size+1<=c:=fun y c e=>(oc.sort y c (by rwa [eYenv] at e)).imp id (·.2)
 have eYxe:∀e s',¬ Y.xe e s':=fun e s' z=>by rwa [<-hY] at z
 have stkX:∀b∈frs X.stack,b<s2.heap.objs.size:=fun b hb=>by
  rcases yaA.mp (I2.stkSub b hb) with z | z
  ·rw [z];exact I2.lt
  ·refine Nat.not_le.mp fun hle=>I2.nofs hle z
 have pinX:∀p∈X.pn++pins,p.1<s2.heap.objs.size:=fun p hp=>yas (I2.pin p hp).1
 have fpY:∀{H':Hp} {its:List Value} {k:Nat},(∀b∈fp,H' b=none)->∀b∈fp,znv Y [(s2.heap.objs.size,lob its k)] H' b:=fun {H' its k} hn b hb=>by
  refine ⟨hn b hb,by rw [eYloc];exact yaz (yaq (hlt b hb) hC),?_,.inl (by rw [eYex];exact hb),fun y c e=>(eYcell y c e).elim (fun z=>(f2 b hb).2.2.2.2.1 y c z) fun z=>ya3 (yaq (hlt b hb) (yc5 z)),fun p hp=>?_⟩
  ·rw [eYfs];intro hm
   rcases yaA.mp (I2.stkSub b hm) with z | z
   ·exact (f2 b hb).2.1 z
   ·exact (f2 b hb).2.2.1 z
  ·rw [eYpn] at hp
   have e:p=(s2.heap.objs.size,lob its k):=by simpa using hp
   rw [e];exact ya3 (hlt b hb)
 have pinD:∀{H':Hp} {σ':St} {s':Shared} {its:List Value} {k:Nat},Inv Y [] σ' H' s'->s'.heap.get? s2.heap.objs.size=some (lob its k)->H' s2.heap.objs.size=none->Inv Y [(s2.heap.objs.size,lob its k)] σ' H' s':=fun {H' σ' s' its k} I' e n =>
  I'.pins_of fun p hp=>by
   have ep:p=(s2.heap.objs.size,lob its k):=by simpa using hp
   subst ep;refine ⟨e,n,by rw [eYloc];exact hDC,?_,fun v z=>?_⟩
   ·rw [eYfs];exact fun hm=>ya2 _ (stkX _ hm)
   ·have z':Data.seq its.toArray k=Data.cell v:=z;cases z'
 have loop:codeAny (model X.prog X.w) X.A (.compLoop (.ListComp elt [⟨tg,iter,ifs,0⟩] scope pos) 0 (.ref it) (.ref s2.heap.objs.size) (compEnvC scope cl2 Hq.objs.size X.env))
   (compPost (model X.prog X.w) X.A X.xe use Qf (.ref s2.heap.objs.size) Hq.objs.size) { s2 with heap:=h₁ }:=by
  refine zot (fun n s'=>∃i σx H' ys its k,Inv Y [(s2.heap.objs.size,lob its k)] σx H' s'/\tn i s'.heap/\(∀b∈fp,H' b=none)/\Vals ys its/\W i n ys σx H') ?_ m0
   ⟨0,capσ σ xs.length caps,H2,[],[],0,pinD I3 hacc (I2.hok.fresh (yam _)),T.keep _ _ _ st2 fun b hb o e=>old b o e,fun b hb=>(f2 b hb).1,.nil,w0⟩
  rintro n s3 ⟨i,σx,H3,ys,its,k,J3,st3,fr3,rv,w3⟩;obtain ⟨hz,hcase⟩:=turn i n ys σx H3 w3
  rcases hcase with ⟨stop,q⟩ | ⟨go,step⟩
  ·have hd:=T.done Y eYprog eYw eYK eYc i _ s3 _ H3 (notedBy (model X.prog X.w) X.A (compEnvC scope cl2 Hq.objs.size X.env) fun e s'=>compPost (model X.prog X.w) X.A X.xe use Qf (.ref s2.heap.objs.size) Hq.objs.size (.error e) s') J3 (fpY fr3) st3 stop;rw [eYA] at hd;refine thn hd fun r s4 ⟨hr,J4⟩=>?_
   subst hr;obtain ⟨m4,hn4,_⟩:=J4.loc
   have hn4':s4.heap.Ns Hq.objs.size m4:=by rw [<-eYloc];exact hn4
   have hnC:H3 Hq.objs.size=none:=by rw [<-eYloc];exact J4.free
   have hk5:HOk X.prog X.w H3 s4.heap:=by rw [<-eYprog,<-eYw];exact J4.hok
   have u5:Un (frs X.stack) fp H2 H3 s2.heap s4.heap:=by
    have ub:=J4.base;rwa [eYfs,eYex,eYH,eYs] at ub
   have J5:Inv X pins σ H3 s4:=I2.call' (s':=s4) (ch:=fp) (by have:=J4.os;rwa [eYs] at this) u5 hk5 J4.bare fun b hb=>⟨(f2 b hb).2.2.2.1,(f2 b hb).2.1,(f2 b hb).2.2.2.2.1,(f2 b hb).2.2.2.2.2⟩
   have hp4:=J4.pin (s2.heap.objs.size,lob its k) (yaM _ yaw);have hD5:s4.heap.get? s2.heap.objs.size=some (lob its k):=hp4.1;have J6:Inv X pins σ (upd H3 s2.heap.objs.size (.lst ys)) s4:=J5.track hp4.2.1 I2.sz (ya3 I2.lt) (fun y c e=>yaz (cellX y c e)) (fun p hp=>yaz (pinX p hp)) (show zb8 X.prog X.w _ s4.heap _ (.lst ys) from ⟨hz,its,k,rv,hD5⟩);have hCloc:Hq.objs.size≠X.env.locals:=ya3 (yaq I2.lt hC);exact fin _ Hq.objs.size s4 m4 _ _ hn4' (fun {σ'} {H7} {s5} {h'} J sb' hn=>J.turned (t':=s5.toks) (it:=Hq.objs.size) (fun b o hb e=>(sb'.2 b hb).trans e) hn hCloc (.inr (yak I2.sz hC)) (fun y c e=>yaz (yaq (cellX y c e) hC)) (fun p hp=>yaz (yaq (pinX p hp) hC))) (by rw [zau (Ne.symm hDC)];exact hnC) hCloc (fun y c e=>ya3 (yaq (cellX y c e) hC)) J6 (q _ hp4.2.1)
  ·have hd:=T.item Y eYprog eYw eYK eYc i _ s3 _ H3 (notedBy (model X.prog X.w) X.A (compEnvC scope cl2 Hq.objs.size X.env) fun e s'=>compPost (model X.prog X.w) X.A X.xe use Qf (.ref s2.heap.objs.size) Hq.objs.size (.error e) s') J3 (fpY fr3) st3 go;rw [eYA] at hd;refine thn hd fun r s4 ⟨u,hr,h4⟩=>?_
   subst hr;refine thn h4 fun _ s5 ⟨v4,H4,J4,r4,y4,st5,fr4⟩=>?_
   have J4':=J4.pinned (fp:=fp) (fpY fr4) (T.obj _ _ st5);have ha:=PGY _ s5 σx H4 v4 u _ J4' r4 (step v4 H4 y4);rw [eYprog,eYw,eYA,eYenv] at ha;refine ybE ha (fun _ s5' ⟨σ5,H5,J5',q5⟩=>?_) fun e s' z=>(eYxe _ _ z).elim
   have ht5:=PIY _ s5' σ5 H5 _ J5' q5;rw [eYprog,eYw,eYA,eYenv] at ht5;refine ybE ht5 (fun ok s6 ⟨H6,J6,q6⟩=>?_) fun e s' z=>(eYxe _ _ z).elim
   have back:∀{H7:Hp} {s7:Shared},Inv Y ([(s2.heap.objs.size,lob its k)]++zij fp s5.heap) σ5 H7 s7->tn (i+1) s7.heap/\∀b∈fp,H7 b=none:=fun {H7 s7} J7 =>
    ⟨T.keep _ _ _ st5 fun b hb o e=>(J7.pin (b,o) (yaM _ (yaM _ (zdP hb e)))).1,fun b hb=>by
     obtain ⟨o,e,d⟩:=T.obj _ _ st5 b hb
     exact (J7.pin (b,o) (yaM _ (yaM _ (zdP hb e)))).2.1⟩
   cases ok with
   | false =>
    rw [if_neg yba] at q6;rw [if_neg yba];obtain ⟨m',hm',w6⟩:=q6;exact ⟨m',hm',i+1,σ5,H6,ys,its,k,J6.unpinned,(back J6).1,(back J6).2,rv,w6⟩
   | true =>
    rw [if_pos rfl] at q6;rw [if_pos rfl];have he6:=PEY _ s6 _ H6 _ J6 q6;rw [eYprog,eYw,eYA,eYenv] at he6;refine ybE he6 (fun u7 s7 ⟨v7,H7,J7,r7,m',hm',w7⟩=>?_) fun e s' z=>(eYxe _ _ z).elim
    obtain ⟨st7,fr7⟩:=back J7;have hp7:=(J7.unpinned).pin (s2.heap.objs.size,lob its k) (yaM _ yaw);have hl:=rv.length;refine append_at (hsz:=by show its.toArray.size<=sizeLine;rw [yag];omega) hp7.1 fun h8 sb8 hD8=>?_
    have J7':Inv Y [] σ5 H7 s7:=J7.unpinned.pins_of fun p hp=>absurd hp (by simp)
    have J8:Inv Y [] σ5 H7 { s7 with heap:=h8 }:=J7'.turned (t':=s7.toks) (it:=s2.heap.objs.size) (fun b o hb e=>(sb8.2 b hb).trans e) hp7.2.1 (by rw [eYloc];exact hDC) (.inr (by rw [eYs];exact yam _)) (fun y c e=>(eYcell y c e).elim (fun z=>yaz (cellX y c z)) fun z=>ya3 z) (fun p hp=>by rw [eYpn] at hp;simp at hp)
    have hD8':h8.get? s2.heap.objs.size=some (lob (its++[u7]) (k+1)):=by rw [hD8];simp [lob]
    exact ⟨m',hm',i+1,σ5,H7,ys++[v7],its++[u7],k+1,pinD J8 hD8' hp7.2.1,T.keep _ _ _ st7 fun b hb o e=>(sb8.2 b (yaz (hlt b hb))).trans e,fr7,rv.append (.cons r7 .nil),w7⟩
 exact codeAny_compStart_list loop (T.self X.A 0 _ _ _ (T.keep _ _ _ st2 fun b hb o e=>old b o e) loop)
def zof(hc:X.calm=true)(S:CompScopeG X.env.scope scope X.N xs caps)(hi:PI X tg iter wi)(hg:∀cl C s H fp,PG (zbu X xs caps scope cl C s H fp) tg g)
  (ht:∀cl C s H fp,PIf (zbu X xs caps scope cl C s H fp) ifs tt) (he:∀cl C s H fp,PE (zbu X xs caps scope cl C s H fp) elt te)
  (hs:∀v,foldedSetIterable iter X.env v=pure v:=by intro _;rfl):PE X (.ListComp elt [⟨tg,iter,ifs,0⟩] scope pos) (zjH wi g tt te xs.length caps):=by
 intro pins s σ H Q I h;rw [eval_ListComp];exact ziP (use:=none) hc S hi hg ht he hs I h fun D C s4 m4 H6 r hn tr hC _ _ J6 q=>⟨m4,hn,fun h5 sb=>⟨.ref D,H6,tr J6 sb hC,rfl,q⟩⟩
def zn4(hc:X.calm=true)(S:CompScopeG X.env.scope scope X.N xs caps)(hN0:X.N.Nodup)(hi0:X.N[k0]?=some y0)(hx0:Loc X.env.scope y0)(hi:PI X tg iter wi)(hg:∀cl C s H fp,PG (zbu X xs caps scope cl C s H fp) tg g)
  (ht:∀cl C s H fp,PIf (zbu X xs caps scope cl C s H fp) ifs tt) (he:∀cl C s H fp,PE (zbu X xs caps scope cl C s H fp) elt te)
  (hsw:swapsWith (.ListComp elt [⟨tg,iter,ifs,0⟩] scope pos) (some (.Name y0 py)) spos.line X.env=pure true)
  (hf0:X.fn y0=true\/X.env.scope.names.lookup y0=some .local)
  (hs:∀v,foldedSetIterable iter X.env v=pure v):PS X (.Assign [.Name y0 py] (.ListComp elt [⟨tg,iter,ifs,0⟩] scope pos) spos) (zrY (zjH wi g tt te xs.length caps) (zmR k0)):=by
 intro pins s σ H DD I h;rw [exec_Assign_Name_used _ _ _ _ hsw];refine yad (wpAny_standAt (yad ?_));show wpAny _ X.A (do let _ ← comprehension (.ListComp elt [⟨tg,iter,ifs,0⟩] scope pos) scope X.env _ (newList []) false (eval iter X.env) (some (assign (.Name y0 py) X.env))) _ _ s;refine yad (ybE (ziP (use:=some (assign (.Name y0 py) X.env)) (Qf:=fun _ s'=>SP X pins DD .next s') hc S hi hg ht he hs I h fun D C s4 m4 H6 r hn tr hC hl hce J6 q=>?_) (fun _ s' hq=>yaj (yaj hq)) fun _ _ e=>e);show wpAny _ X.A (assign (.Name y0 py) X.env (.ref D)) _ X.xe s4;refine wpAny_assign_Name (zhV (i:=k0) J6 hN0 hi0 hx0 (v:=.ref D) rfl (fun s5 J7 ⟨a,sb,ha⟩=>?_) hf0);have haC:C≠a:=ha.elim (fun z=>by rw [z];exact hl) fun z=>hce _ _ z
 exact ⟨m4,hn.sameBut sb haC,fun h' sb'=>⟨_,_,tr J7 sb' hC,q⟩⟩
end
end L2
namespace ST
open PySem PySem.SetTable
open PySem PySem.Spec PyProof.Rows
end ST
namespace PySem
end PySem
namespace L2
open PySem PySem.Spec PyProof.Rows
section
variable{X:Cx}{a b c:Expr}{ta tb tc:TE}{pos:Pos}
def zjt:zet X (.builtin "isinstance") (fun xs H Q=>∃x t c k,xs=[x,.ty c]/\TyOf X.K H x t/\PySem.W.kitOne X.K t (.type c)=some k/\Q (.bl k) H):=by
 intro pins s σ H xs us Q I r h;obtain ⟨x,t,c,k,rfl,ty,e,q⟩:=h
 cases r with
 | cons r1 rr =>
  cases rr with
  | cons r2 r3 =>
   cases r3;cases (show _=Value.type c from r2);exact zmI I r1 ty e fun tk=>⟨.bl k,H,I.tok tk,rfl,q⟩
def zhd(bs:List Bool):((List.range bs.length).all fun i=>(bs[i]?).getD true)=bs.all id:=by
 rw [ybj,ya1,ya1];constructor
 ·intro h b hb;obtain ⟨i,hi,e⟩:=List.mem_iff_getElem.mp hb;have:=h i (yaI.mpr hi);rwa [yaa hi,e] at this
 ·intro h i hi;have hi':=yaI.mp hi;rw [yaa hi'];exact h _ (yaS hi')
def zju(hc:X.calm=true):zet X (.builtin "all") (fun xs H Q=>∃(p:Addr) (bs:List Bool),xs=[.ref p]/\SqL X.K H p (bs.map V.bl)/\Q (.bl (bs.all id)) H):=by
 intro pins s σ H xs us Q I r h;obtain ⟨p,bs,rfl,hq,q⟩:=h;obtain ⟨u,rfl,rx⟩:=zgX r;cases rx;obtain ⟨its,rv,pl,hz⟩:=I.list hq;have hl:=pl.isList
 have hlt:p<s.heap.objs.size:=by obtain ⟨_,e,_⟩:=hl;exact yas e
 have hn:its.length=bs.length:=by have:=rv.length;rw [yae] at this;exact this.symm
 refine call_all_walk (yc3 hl ?_);refine ⟨s.heap.objs.size,[s.heap.objs.size,p],[s.heap.objs.size],its.toArray.size,_,_,fun i=>(bs[i]?).getD true,rfl,Walks.list (A:=X.A.in1) (I.ok.hd hc) _ p (yaz hlt) its.toArray,⟨⟨_,yau _ rfl,rfl,rfl⟩,hl.push _⟩,fun i v s' Q' E' hP hQ=>?_,fun h' tk hk=>?_⟩
 ·have hv:its[i]?=some v:=by simpa using hP
  have hi:i<bs.length:=by rw [<-hn];exact (yan.mp hv).1
  obtain ⟨u,hu,ru⟩:=rv.get (i:=i) (x:=.bl bs[i]) (by rw [yal,yaa hi];rfl);rw [hv] at hu;cases hu;cases (show v=Value.bool bs[i] from ru);refine ybg ?_;have hQ':Q' ((bs[i]?).getD true) s':=hQ;rwa [yaa hi] at hQ'
 ·rw [yag,hn,zhd];refine ⟨.bl _,H,I.kept (t':=tk) fun b o e=>?_,rfl,q⟩;exact hk b o (fun hm=>by rw [yaF.mp hm] at e;exact ya2 _ (yas e)) (yaf _ e)
def zjd:OpR X (compareOp .IsNot) (fun x y H Q=>∃i j,x=.bl i/\y=.bl j/\Q (.bl (!decide (i=j))) H):=by
 intro pins s σ H x y v u Q I rx ry h;obtain ⟨i,j,rfl,rfl,q⟩:=h;cases rx;cases ry;show wpAny _ _ (isSame (Value.bool i) (Value.bool j) >>= fun r=>pure (Value.bool (!r))) _ _ s;refine yad (wpAny_isSame_plain (by rfl) (yaj ?_));refine ⟨.bl (!decide (i=j)),H,I,?_,q⟩;show _=Value.bool _;congr 1
 cases i<;>cases j<;>rfl
noncomputable def zkC(a:Addr)(c:Nat)(h:Heap):Prop:=∃o es ep t,h.get? a=some o/\o.ExactSet/\o.data=.set es ep t/\t.fits es.size=true/\es.size=c
theorem zhD:zet X (.builtin "len") (fun xs H Q=>∃a c,xs=[.ref a]/\H a=some (.ext (zkC a c))/\c<=1000/\Q (.int c) H):=by
 intro pins s σ H xs us Q I r h;obtain ⟨a,c,rfl,ha,hc,q⟩:=h;obtain ⟨u,rfl,rx⟩:=zgX r;cases rx;obtain ⟨⟨o,es,ep,t,e1,e2,e3,e4,e5⟩,_⟩:=I.hok a _ ha;refine call_len_set e1 e2 e3 e4 ?_ ?_
 ·have:(es.size:Int)<=1000:=by rw [e5];omega
  exact Int.lt_of_le_of_lt this (by decide)
 ·exact ⟨.int c,H,I.tok _,⟨_,by rw [e5]⟩,q⟩
def zok:OpR X (binaryOp .Add) (fun x y H Q=>∃(a b:Addr) (ys:List V),x=.ref a/\y=.ref b/\SqT X.K H a []/\SqT X.K H b ys/\Q (.ref b) H):=by
 intro pins s σ H x y v u Q I rx ry h;obtain ⟨a,b,ys,rfl,rfl,ha,hb,q⟩:=h;cases rx;cases ry;obtain ⟨its,r1,p1,_⟩:=I.tuple ha;obtain ⟨its2,r2,p2,_⟩:=I.tuple hb;cases r1;obtain ⟨⟨cls,dd,data,sl⟩,ho,hc,n,hd⟩:=id p1;obtain ⟨⟨cls2,dd2,data2,sl2⟩,ho2,hc2,n2,hd2⟩:=id p2;simp only at hc hd hc2 hd2;subst hc hd hc2 hd2
 exact concat_meets ⟨_,ho,rfl⟩ ⟨_,ho2,rfl⟩ noFill_tuple_add seq_tuple_add ycm ycd (yb8 _ _)
  (tuple_addW0 a b ([]:List Value).toArray its2.toArray n n2 dd dd2 sl sl2 (by rfl)) ⟨ho,ho2,⟨.ref b,H,I,rfl,q⟩⟩
end
end L2
namespace PySem
open PySem.Spec PyProof.Rows
theorem zd7:fillsNumberSlot (.type "tuple") "mul" = pure false :=
 fillsNumberSlot_seq (id:="tuple.__mul__") (r:=some (.builtin "tuple.__rmul__")) ycx.lookup (by decide +kernel) F.slot_tuple_rmul.lookup (by decide +kernel)
theorem zgx:seqRepeat? (.type "tuple")=pure (some (.builtin "tuple.__mul__")):=by
 have e1:=seqSlot_of (T:="tuple") (name:="__mul__") (id:="tuple.__mul__") ycx.lookup (by decide +kernel);have e2:=seqSlot_of (T:="tuple") (name:="__rmul__") (id:="tuple.__rmul__") F.slot_tuple_rmul.lookup (by decide +kernel);unfold seqRepeat?;rw [e1,e2];rfl
def zfg(a:Int)(t:Tok)(l:Addr)(o:Obj)(hc:o.cls=.type "tuple")(hdd:o.data=.seq its n) :
  Meets (Builtin.«int.__rmul__» ⟨[.int a t,.ref l],[]⟩) (fun _ R s=>s.heap.get? l=some o/\R (.ok (.ret Value.notImplemented)) s) :=
 .of_wp fun prog w A R s h=>by
  obtain ⟨c,d,dt,sl⟩:=o;simp only at hc hdd;subst hc hdd;obtain ⟨hp,g,dr,tk,os⟩:=s;obtain ⟨hl,h⟩:=h
  wp_walk
  exact ⟨_,rfl,h⟩
section
variable{prog:Program}{w:World}{A:Around}{E:Z5}{s:Shared}
theorem zhQ{a:Addr}{o:Obj}{its:Array Value}{n:Nat}{k:Int}{t:Tok}{P:Fin->Shared->Prop}(ho:s.heap.get? a=some o)(hc:o.cls=.type "tuple")(hd:o.data=.seq its n)(hne:its.isEmpty=false)(h2:2<=k)(hz:(its.size:Int)*k<=1000000)(hk:k<=1000)
  (h:P (.done (.ret (.ref s.heap.objs.size))) { s with heap:=s.heap.push { cls:=.type "tuple",data:=.seq ((List.replicate k.toNat its).foldl (·++·) #[]) } }) (hsz:((List.replicate k.toNat its).foldl (·++·) #[]).size<=sizeLine) :
  wpAny (model prog w) A (Builtin.«tuple.__mul__» ⟨[.ref a,.int k t],[]⟩) P E s:=by
 show wpAny _ _ (asIndex (.int k t) >>= _) _ _ s;refine yad ?_;unfold asIndex;refine yad (yaj ?_);dsimp only;refine yaj ?_
 have e0:(decide (k < -(2 ^ 63))||decide (k ≥ 2 ^ 63))=false:=by
  rw [Bool.or_eq_false_iff];refine ⟨yaJ ?_,yaJ ?_⟩
  ·omega
  ·omega
 rw [e0];simp only [yaT,ybO];refine yad (ycW ho hd ?_)
 have e1:(its.isEmpty||k == 1)=false:=by rw [hne,Bool.false_or];simp;omega
 rw [e1];simp only [yaT,ybO]
 have e2:(decide (k<=0)||its.isEmpty)=false:=by rw [hne,Bool.or_false];exact yaJ (by omega)
 rw [e2];simp only [yaT,ybO];rw [if_neg (by omega)]
 have e3:Builtin.Tuple.tupleTooMany (its.size*k)=false:=by
  unfold Builtin.Tuple.tupleTooMany;refine yaJ ?_
  have:(1000000:Int)<=(sizeLine:Int):=by decide
  omega
 rw [e3];simp only [yaT,ybO];unfold Builtin.Tuple.tupleExact;exact yad (ybo (yaj h) hsz)
def zhP(ho:s.heap.get? a=some o)(hc:o.cls=.type "tuple")(hd:o.data=.seq its n)(h:P (.done (.ret (.ref a))) s) :
  wpAny (model prog w) A (Builtin.«tuple.__mul__» ⟨[.ref a,.int 1 t],[]⟩) P E s:=by
 show wpAny _ _ (asIndex (.int 1 t) >>= _) _ _ s;refine yad ?_;unfold asIndex;refine yad (yaj ?_);dsimp only;refine yaj ?_
 have e0:(decide ((1:Int) < -(2 ^ 63))||decide ((1:Int) ≥ 2 ^ 63))=false:=by decide
 rw [e0];simp only [yaT,ybO];refine yad (ycW ho hd ?_)
 have e1:(its.isEmpty||(1:Int) == 1)=true:=by simp
 rw [e1];simp only [yb4];unfold Builtin.Tuple.tupleIsExact;refine yad (yad (wpAny_typeOf (T:="tuple") ⟨o,ho,hc⟩ (yaj ?_)));simp only [ybP,yb4];exact yad (yc9 (yaj h))
def zqY{a:Addr}{o:Obj}{its:Array Value}{n:Nat}{k:Int}{t:Tok}{Q:Z5}(ho:s.heap.get? a=some o)(hc:o.cls=.type "tuple")(hd:o.data=.seq its n)(hne:its.isEmpty=false)(h2:2<=k)(hz:(its.size:Int)*k<=1000000)(hk:k<=1000)
  (h:Q (.ref s.heap.objs.size) { s with heap:=s.heap.push { cls:=.type "tuple",data:=.seq ((List.replicate k.toNat its).foldl (·++·) #[]) } }) (hsz:((List.replicate k.toNat its).foldl (·++·) #[]).size<=sizeLine) :
  wpAny (model prog w) A (binaryOp .Mult (.ref a) (.int k t)) Q E s:=by
 have hT:s.TypeIs (.ref a) "tuple":=⟨o,ho,hc⟩
 refine yb0 (T:="tuple") (U:="int") (by decide) hT (fun s'=>ycG s' k t) zd7 F.fills_int_mul ybT zgx F.slot_int_index.lookup
  (ycH ybT (ycG s k t) F.entry_int_rmul (yc4 _ _) (zfg k t a o hc hd) ⟨ho,rfl,hT,?_⟩)
 exact ybm ycx hT F.entry_tuple_mul (zhQ ho hc hd hne h2 hz hk ⟨_,rfl,h⟩ hsz) (F.args_tuple_mul_2 _ _)
def zop(ho:s.heap.get? a=some o)(hc:o.cls=.type "tuple")(hd:o.data=.seq its n)(h:Q (.ref a) s):wpAny (model prog w) A (binaryOp .Mult (.ref a) (.int 1 t)) Q E s:=by
 have hT:s.TypeIs (.ref a) "tuple":=⟨o,ho,hc⟩
 refine yb0 (T:="tuple") (U:="int") (by decide) hT (fun s'=>ycG s' 1 t) zd7 F.fills_int_mul ybT zgx F.slot_int_index.lookup
  (ycH ybT (ycG s 1 t) F.entry_int_rmul (yc4 _ _) (zfg 1 t a o hc hd) ⟨ho,rfl,hT,?_⟩)
 exact ybm ycx hT F.entry_tuple_mul (zhP ho hc hd ⟨_,rfl,h⟩) (F.args_tuple_mul_2 _ _)
end
end PySem
namespace L2
open PySem PySem.Spec PyProof.Rows
inductive D where
 | non | bl (b:Bool) | int (i:Int) | str (x:Str) | tup (l:List D) | lst (l:List D)
section
variable{X:Cx}
theorem zqI:OpR X (binaryOp .Mult) (fun x y H Q=>∃(p:Addr) (k:Int) (xs:List V),x=.ref p/\y=.int k/\SqT X.K H p xs/\xs≠[]/\2<=k/\k<=1000/\xs.length<=1000/\∀l,H l=none->Q (.ref l) (upd H l (.tup (List.replicate k.toNat xs).flatten))):=by
 intro pins s σ H x y v u Q I rx ry h;obtain ⟨p,k,xs,rfl,rfl,hq,hne,h2,hk,hx,q⟩:=h;cases rx;obtain ⟨t,rfl⟩:=ry;obtain ⟨its,rv,⟨o,ho,hc,n,hd⟩,_⟩:=I.tuple hq;have hl:=rv.length
 have hnew:(List.replicate k.toNat its.toArray).foldl (·++·) #[]=(List.replicate k.toNat its).flatten.toArray:=by
  have:=zf3 its k.toNat [];rwa [ycL] at this
 have hsz:(List.replicate k.toNat its).flatten.length<=1000000:=by
  rw [zjg];exact yak (ybd (show k.toNat<=1000 by omega) (show its.length<=1000 by omega)) (by decide)
 have hline:(1000000:Nat)<=sizeLine:=by decide
 refine zqY ho hc hd ?_ h2 ?_ hk ?_ ?_
 ·have:its≠[]:=fun z=>hne (by cases xs with | nil=>rfl | cons a r=>rw [z] at hl;cases hl)
  simpa using this
 ·rw [yag];have:=Int.mul_le_mul (show (its.length:Int)<=1000 by omega) hk (by omega) (by omega);omega
 ·rw [hnew];refine ⟨.ref s.heap.objs.size,_,I.laid (t':=s.toks) (o:=.tup (List.replicate k.toNat xs).flatten) (fun b ob q=>yaf _ q) (yam _) ?_,rfl,q _ (I.hok.fresh (yam _))⟩;refine ⟨?_,_,rv.rep k.toNat,zo8.new _ _⟩;rw [zjg] at hsz ⊢;rw [<-hl] at hsz;omega
 ·rw [hnew,yag];omega
end
end L2
namespace HT
open PySem PySem.Spec PyProof.Rows L2
section
variable{prog:Program}{w:World}{A:Around}{E:Z5}{s:Shared}
def ze3{t sl:Addr}{items:Array Value}{vl vu:Value}{lo hi:Option Int}{Q:Z5}(ht:IsTup s.heap t items)(hs:s.heap.IsSliceOf sl vl vu .none)(pl:IsPart vl lo)(pu:IsPart vu hi)
  (h1:sIx items.size 0 lo=0) (h2:sIx items.size items.size hi=items.size) (h:Q (.ref t) s):wpAny (model prog w) A (getItem (.ref t) (.ref sl)) Q E s:=by
 obtain ⟨os,hos,hcs,hds⟩:=id hs;have hTs:s.TypeIs (.ref sl) "slice":=⟨os,hos,hcs⟩;unfold getItem
 try with_reducible refine ycb ?_
 first | refine yad (yaj ?_) | skip
 refine yad (wpAny_sequenceKey ht.typeIs (by decide) ?_)
 refine yad (ya8 (name:=Str.ofString "__getitem__") ht.typeIs yaY
  (ybm yaY ht.typeIs entry_tuple_getitem ?_ (args_tuple_getitem _ _)))
 show wpAny _ _ (Builtin.Tuple.tupleItemsOf (.ref t) >>= _) _ _ s;refine yad (tupleItemsOf_ ht ?_);refine yad (wpAny_typeOf hTs ?_);rw [if_pos (by decide)];refine yad (zdl hs pl pu ?_);rw [h1,h2];show wpAny _ _ (if ((((0:Nat):Int) == 0&&(1:Int) == 1&&(items.size-0) == items.size)=true) then _ else _) _ _ s;rw [if_pos (by simp)];unfold Builtin.Tuple.tupleIsExact;refine yad (yad (wpAny_typeOf ht.typeIs (yaj ?_)));simp only [ybP,yb4];refine yad (yc9 ?_)
 first
  | exact yaj ⟨_,rfl,yaj h⟩
  | exact yad (yaj (yaj ⟨_,rfl,yaj h⟩))
end
end HT
namespace L2
open PySem PySem.Spec PyProof.Rows
def zkM:SlR X (fun x lo hi H Q=>∃(a:Addr) (xs:List V),x=.ref a/\SqT X.K H a xs/\HT.sIx xs.length 0 lo=0/\HT.sIx xs.length xs.length hi=xs.length/\Q (.ref a) H):=by
 intro pins s σ H x v vl vu lo hi sl Q I rx hs pl pu h;obtain ⟨a,xs,rfl,hx,h1,h2,q⟩:=h;cases rx;obtain ⟨its,r,ht,hz⟩:=I.tuple hx
 have hlen:its.toArray.size=xs.length:=by rw [yag];exact r.length.symm
 refine ⟨"tuple",_,yaY.lookup,ht.typeIs,?_⟩;exact HT.ze3 ht hs pl pu (by rw [hlen];exact h1) (by rw [hlen];exact h2) ⟨.ref a,H,I,rfl,q⟩
mutual
def D.py:D->PyData
 | .non=>.none
 | .bl b=>.bool b
 | .int i=>.int i
 | .str x=>.str x
 | .tup l=>.tuple (D.pys l)
 | .lst l=>.list (D.pys l)
def D.pys:List D->List PyData
 | []=>[]
 | d::l=>d.py::D.pys l
end
mutual
def D.fit:Nat->D->Bool
 | _,.non=>true
 | _,.bl _=>false
 | _,.int _=>true
 | _,.str x=>PyData.strOk x
 | 0,.tup _=>false
 | n+1,.tup l=>D.fits n l
 | 0,.lst _=>false
 | n+1,.lst l=>D.fits n l
def D.fits:Nat->List D->Bool
 | _,[]=>true
 | n,d::l=>d.fit n&&D.fits n l
end
theorem D.fits_iff:∀{l:List D},D.fits n l=true↔∀d∈l,d.fit n=true
 | []=>by simp [D.fits]
 | d::l=>by simp [D.fits,D.fits_iff (l:=l)]
mutual
theorem D.lay:∀{n:Nat} {d:D},d.fit n=true->d.py.canLay0=true/\d.py.depth<=n
 | _,.non,_=>⟨rfl,ybn _⟩
 | _,.bl _,h=>by simp [D.fit] at h
 | _,.int _,_=>⟨rfl,ybn _⟩
 | _,.str x,h=>⟨by simpa [D.fit,D.py,PyData.canLay0] using h,ybn _⟩
 | 0,.tup _,h=>by simp [D.fit] at h
 | 0,.lst _,h=>by simp [D.fit] at h
 | n+1,.tup l,h=>by
  have h':D.fits n l=true:=by simpa [D.fit] using h
  obtain ⟨a,b⟩:=D.lays h';exact ⟨by simpa [D.py,PyData.canLay0] using a,by simp only [D.py,PyData.depth];omega⟩
 | n+1,.lst l,h=>by
  have h':D.fits n l=true:=by simpa [D.fit] using h
  obtain ⟨a,b⟩:=D.lays h';exact ⟨by simpa [D.py,PyData.canLay0] using a,by simp only [D.py,PyData.depth];omega⟩
theorem D.lays:∀{n:Nat} {l:List D},D.fits n l=true->PyData.canLayAll0 (D.pys l)=true/\PyData.depthAll (D.pys l)<=n
 | _,[],_=>⟨rfl,ybn _⟩
 | n,d::l,h=>by
  simp only [D.fits,yac] at h;obtain ⟨a,b⟩:=D.lay h.1;obtain ⟨c,e⟩:=D.lays h.2;exact ⟨by simp [D.pys,PyData.canLayAll0,a,c],by simp only [D.pys,PyData.depthAll];omega⟩
end
section
variable{X:Cx}
def zlX(hl:d.canLay0=true)(r:Reads h v d as):SeqAt.readOf h v=d:=by
 have hx:∃d as,Reads h v d as:=⟨d,as,r⟩;unfold SeqAt.readOf;rw [dif_pos hx];obtain ⟨bs,rb⟩:=hx.choose_spec;exact (SeqAt.Reads.unique _ _ _ _ _ hl r rb).symm
end
noncomputable def zkZ:Option Int->Value->Bool
 | none,.none=>true
 | some i,v=>Value.isInt i v
 | _,_=>false
theorem zbk:∀{k:Option Int} {v:Value},zkZ k v=true->(k=none/\v=.none)\/∃i t,k=some i/\v=.int i t
 | none,v,h=>by
  cases v<;>simp [zkZ] at h
  exact .inl ⟨rfl,rfl⟩
 | some i,v,h=>by
  obtain ⟨t,e⟩:=Value.isInt_shape (k:=i) (v:=v) (by simpa [zkZ] using h);exact .inr ⟨i,t,rfl,e⟩
noncomputable def zj1:Int:=reduceHash 0xFCA86420
def zmP{prog:Program}{w:World}{A:Around}{E:Z5}{s:Shared}{Q:Int->Shared->Prop}(h:Q zj1 { s with toks:=s.toks+1 }):wpAny (model prog w) A (pyHash .none) Q E s :=
 PySem.W.pyHash_slot (T:="NoneType") rfl F.slot_NoneType_hash F.entry_NoneType_hash (F.args_NoneType_hash_1 _) (beq_builtin_none _) (.inl rfl) (yad (yaj (yad (wpAny_mkInt (yaj ⟨_,_,rfl,h⟩)))))
def zcL(prog:Program)(w:World):KeyKind prog w (Option Int) where
 is:=zkZ
 hash:=fun k=>match k with | none=>zj1 | some i=>hashInt i
 inj:=fun v a b ha hb=>by
  rcases zbk ha with ⟨rfl,rfl⟩ | ⟨i,t,rfl,rfl⟩<;>rcases zbk hb with ⟨rfl,e⟩ | ⟨j,u,rfl,e⟩<;>cases e<;>rfl
 byValue:=fun k v h=>by
  rcases zbk h with ⟨rfl,rfl⟩ | ⟨i,t,rfl,rfl⟩<;>rfl
 pyHash:=fun {A E s k v Q} h hq=>by
  rcases zbk h with ⟨rfl,rfl⟩ | ⟨i,t,rfl,rfl⟩
  ·exact zmP hq
  ·exact wpAny_pyHash_int hq
 eqBool:=fun {A E s a b u v Q} ha hb hq=>by
  rcases zbk ha with ⟨rfl,rfl⟩ | ⟨i,t,rfl,rfl⟩<;>rcases zbk hb with ⟨rfl,rfl⟩ | ⟨j,u,rfl,rfl⟩
  ·unfold PySem.eqBool;refine ycb ?_;refine wpAny_ite_split (fun _=>yad (yc9 (yaj (by simpa using hq)))) (fun z=>absurd rfl z)
  ·exact SeqAt.EqAt.none_int j u prog w E Q (by simpa using hq)
  ·exact SeqAt.EqAt.int_none i t prog w E Q (by simpa using hq)
  ·refine SeqAt.EqAt.int_int i t j u prog w E Q ?_
   have e:decide (some i=some j)=(i == j):=by
    rw [ybj];simp
   rw [<-e];exact hq
 «strs»:=fun k x t v h=>by
  rcases zbk h with ⟨_,e⟩ | ⟨i,u,_,e⟩<;>cases e
noncomputable abbrev NK:=Int×List (Option Int)
noncomputable def zeZ:Option Int->PyData | none=>.none | some i=>.int i
noncomputable def zeU(prog:Program)(w:World)(h:Heap)(k:NK)(a:Addr):Prop:=∃o items n t b,h.get? a=some o/\o.cls=.type "tuple" /\ o.data=.seq items n/\items.toList=[.int k.1 t,.ref b]/\IsTupleKey (zcL prog w) h k.2 b
section
variable{prog:Program}{w:World}{A:Around}{E:Z5}{s:Shared}
def zon(prog:Program)(w:World)(k:NK):Int:=reduceHash (Builtin.Tuple.tupleHashOf [hashInt k.1,tupleKeyHash (zcL prog w) k.2])
def zeU.typeIs(x:zeU prog w s.heap k a):s.TypeIs (.ref a) "tuple":=let ⟨o,_,_,_,_,ho,hc,_⟩:=x;⟨o,ho,hc⟩
theorem zeh:∀{l:Z4} {vs:List Value},ItemsAre (zcL prog w) l vs->ReadsAll h vs (l.map zeZ) []
 | _,_,.nil=>.nil
 | _,_,.cons h1 r=>by
  rcases zbk h1 with ⟨rfl,rfl⟩ | ⟨i,t,rfl,rfl⟩
  ·exact .cons (as:=[]) (bs:=[]) .none (zeh r)
  ·exact .cons (as:=[]) (bs:=[]) (.int i t) (zeh r)
def zeU.reads(x:zeU prog w h k a):Reads h (.ref a) (.tuple [.int k.1,.tuple (k.2.map zeZ)]) []:=by
 obtain ⟨o,items,n,t,b,ho,hc,hd,hi,ob,its,m,hob,hcb,hdb,hib⟩:=x;refine .tuple ho hc hd ?_;rw [hi];exact .cons (as:=[]) (bs:=[]) (.int _ _) (.cons (as:=[]) (bs:=[]) (.tuple hob hcb hdb (zeh hib)) .nil)
theorem zin:∀{l m:Z4},PyData.eqvAll (l.map zeZ) (m.map zeZ)=decide (l=m)
 | [],[]=>by simp [PyData.eqvAll]
 | [],_::_=>by simp [PyData.eqvAll]
 | _::_,[]=>by simp [PyData.eqvAll]
 | x::l,y::m=>by
  have ih:=zin (l:=l) (m:=m);simp only [yay,PyData.eqvAll,ih]
  cases x<;>cases y<;>simp [zeZ,PyData.eqv]
  rw [ybj];simp
theorem zfr:∀{l:Z4},PyData.canLayAll0 (l.map zeZ)=true/\PyData.depthAll (l.map zeZ)=0
 | []=>⟨rfl,rfl⟩
 | x::l=>by
  obtain ⟨a,b⟩:=zfr (l:=l)
  cases x<;>simp [zeZ,PyData.canLayAll0,PyData.depthAll,PyData.canLay0,PyData.depth,a,b]
def zeJ(prog:Program)(w:World):HeapKind prog w NK where
 is:=zeU prog w
 hash:=zon prog w
 draws:=fun k=>1+(k.2.length+1)+1
 room:=fun A=>A.units+8<cLine
 inj:=fun {h a x y} hx hy=>by
  obtain ⟨o,items,n,t,b,ho,hc,hd,hi,kx⟩:=hx;obtain ⟨o',items',n',t',b',ho',hc',hd',hi',ky⟩:=hy;rw [ho] at ho';cases ho';rw [hd] at hd';cases hd';rw [hi] at hi';simp only [List.cons.injEq,Value.int.injEq,Value.ref.injEq,and_true] at hi';obtain ⟨⟨e1,_⟩,e2⟩:=hi';subst e2;exact Prod.ext e1 (kx.inj ky)
 keeps:=fun {h h' k a d o es ep} x ho hd hs=>by
  obtain ⟨o1,items,n,t,b,ho1,hc,hd1,hi,kx⟩:=x;refine ⟨o1,items,n,t,b,(hs.2 a ?_).trans ho1,hc,hd1,hi,kx.keeps ho hd hs⟩;rintro rfl;rw [ho] at ho1;cases ho1;rw [hd] at hd1;cases hd1
 pyHash:=fun {A E s k a Q} hu x hq=>by
  have hT:=zeU.typeIs (prog:=prog) (w:=w) x;obtain ⟨o,items,n,t,b,ho,hc,hd,hi,kx⟩:=x;refine PySem.W.pyHash_slot (T:="tuple") hT F.slot_tuple_hash F.entry_tuple_hash (F.args_tuple_hash_1 _) (beq_builtin_none _) (.inr (by omega)) ?_;show wpAny _ _ (Builtin.Tuple.tupleItemsOf (.ref a) >>= _) _ _ s;refine yad (ycW ho hd ?_);refine yad ?_;rw [<-ycX,hi];refine ycy _ (fun zcj (r:Array Int) s'=>(zcj=[.int k.1 t,.ref b]/\r.toList=[]/\s'=s)\/(zcj=[.ref b]/\r.toList=[hashInt k.1]/\s'={ s with toks:=s.toks+1 })\/(zcj=[]/\r.toList=[hashInt k.1,tupleKeyHash (zcL prog w) k.2]/\s'={ s with toks:=s.toks+1+(k.2.length+1) })) _ ?_ ?_ _ _ (.inl ⟨rfl,rfl,rfl⟩)
  ·rintro x zcj r s' (⟨e,hr,rfl⟩ | ⟨e,hr,rfl⟩ | ⟨e,hr,rfl⟩)
   ·injection e with e1 e2
    subst e1 e2;refine yad (wpAny_pyHash_int ?_)
    first
     | exact yaj (.inr (.inl ⟨rfl,by simp [hr],rfl⟩))
     | exact yad (yaj (yaj (.inr (.inl ⟨rfl,by simp [hr],rfl⟩))))
   ·injection e with e1 e2
    subst e1 e2;refine yad (wpAny_pyHash_tuple (A:=A.in1) (by show A.units+1<cLine;omega) kx ?_)
    first
     | exact yaj (.inr (.inr ⟨rfl,by simp [hr],rfl⟩))
     | exact yad (yaj (yaj (.inr (.inr ⟨rfl,by simp [hr],rfl⟩))))
   ·cases e
  ·rintro r s' (⟨e,_⟩ | ⟨e,_⟩ | ⟨_,hr,rfl⟩)
   ·cases e
   ·cases e
   ·show wpAny _ _ (retInt (Builtin.Tuple.tupleHashOf r.toList)) _ _ _;rw [hr];refine yad (wpAny_mkInt (yaj ⟨_,_,rfl,?_⟩))
    have e:s.toks+1+(k.2.length+1)+1=s.toks+(1+(k.2.length+1)+1):=by omega
    show Q _ { s with toks:=s.toks+1+(k.2.length+1)+1 };rw [e];exact hq
 eqBool:=fun {A E s x y a b Q} hu hx hy hq=>by
  refine SeqAt.eqAt_reads _ _ A s (.ref a) (.ref b) [] [] hx.reads hy.reads ?_ ?_ ?_ prog w E Q ?_
  ·simp [PyData.canLay0,PyData.canLayAll0,zfr.1]
  ·simp [PyData.canLay0,PyData.canLayAll0,zfr.1]
  ·have h1:(PyData.tuple [.int x.1,.tuple (x.2.map zeZ)]).depth<=3:=by
    simp [PyData.depth,PyData.depthAll,zfr.2]
   have:min (PyData.tuple [.int x.1,.tuple (x.2.map zeZ)]).depth (PyData.tuple [.int y.1,.tuple (y.2.map zeZ)]).depth<=3:=yak (Nat.min_le_left _ _) h1;omega
  ·have e:(PyData.tuple [.int x.1,.tuple (x.2.map zeZ)]).eqv (.tuple [.int y.1,.tuple (y.2.map zeZ)])=decide (x=y):=by
    simp only [PyData.eqv,PyData.eqvAll,zin];rw [ybj];simp [Prod.ext_iff]
   rw [e];exact hq
 quiet:=fun {A E s k a Q} x hq=>by
  have hT:=zeU.typeIs (prog:=prog) (w:=w) x;obtain ⟨o,items,n,t,b,ho,hc,hd,hi,kx⟩:=x;have hTb:=kx.typeIs;obtain ⟨ob,its,m,hob,hcb,hdb,hib⟩:=kx
  have low:wpAny (model prog w) A (eqIsQuiet 7 (.ref b)) (fun r s'=>r=true/\s'=s) E s:=by
   unfold eqIsQuiet;refine yad (wpAny_specialOf hTb F.slot_tuple_eq.lookup ?_);show wpAny _ _ (isInstance (.ref b) (.type "tuple") >>= _) _ _ s;refine yad (ycz hTb isSubtype_tuple_tuple ?_);simp only [ycE,yaT,ybO];refine yad (ybQ hob hdb (yad ?_));show wpAny _ _ (forIn its _ _) _ _ s;rw [<-ycX];refine ycy _ (fun zcj r s'=>r.1=none/\s'=s/\∀v∈zcj,carriedByValue v=true) _ ?_ ?_ _ _ ⟨rfl,rfl,hib.byValue⟩
   ·rintro v zcj r s' ⟨hr,rfl,hall⟩;rw [eqIsQuiet_byValue _ (hall v yaw)];refine yad (yaj ?_);simp only [ycE,yaT,ybO];exact yaj ⟨rfl,rfl,fun z hz=>hall z (yao _ hz)⟩
   ·rintro ⟨r1,r2⟩ s' ⟨hr,rfl,_⟩;simp only at hr;subst hr;exact yaj ⟨rfl,rfl⟩
  unfold eqIsQuiet;refine yad (wpAny_specialOf hT F.slot_tuple_eq.lookup ?_);show wpAny _ _ (isInstance (.ref a) (.type "tuple") >>= _) _ _ s;refine yad (ycz hT isSubtype_tuple_tuple ?_);simp only [ycE,yaT,ybO];refine yad (ybQ ho hd (yad ?_));show wpAny _ _ (forIn items _ _) _ _ s;rw [<-ycX,hi];refine ycy _ (fun zcj r s'=>r.1=none/\s'=s/\(zcj=[.int k.1 t,.ref b]\/zcj=[.ref b]\/zcj=[])) _ ?_ ?_ _ _ ⟨rfl,rfl,.inl rfl⟩
  ·rintro v zcj r s' ⟨hr,rfl,(e | e | e)⟩
   ·injection e with e1 e2
    subst e1 e2;rw [eqIsQuiet_byValue _ rfl];refine yad (yaj ?_);simp only [ycE,yaT,ybO];exact yaj ⟨rfl,rfl,by simp⟩
   ·injection e with e1 e2
    subst e1 e2;refine yad (ybE low (fun r' s'' hz=>?_) fun _ _ z=>z);obtain ⟨rfl,rfl⟩:=hz;simp only [ycE,yaT,ybO];exact yaj ⟨rfl,rfl,by simp⟩
   ·cases e
  ·rintro ⟨r1,r2⟩ s' ⟨hr,rfl,_⟩;simp only at hr;subst hr;exact yaj hq
end
noncomputable def oV:Option Int->V | none=>.non | some i=>.int i
noncomputable def DN(P:Program)(w:World)(a:Addr)(xs:List (NK×Addr×Value))(h:Heap):Prop :=
 ∃o es ep,h.get? a=some o/\o.ExactDict/\o.data=.dict es ep/\es.toList=xs.map (entryOfKey (zeJ P w))/\(xs.map (·.1)).Nodup/\(a == sysModules)=false
noncomputable def zjy(H:Hp)(kb:Addr)(k:NK):Prop:=∃b,H kb=some (.tup [.int k.1,.ref b])/\H b=some (.tup (k.2.map oV))
noncomputable def zo9(H:Hp)(xs:List (NK×Addr×Value))(m:List (NK×V)):Prop:=Paired (fun (x:NK×Addr×Value) (p:NK×V)=>x.1=p.1/\zjy H x.2.1 x.1/\zbM p.2 x.2.2) xs m
def zku:∀h1 h2:Heap,DN P w a xs h1->(∀o,h1.get? a=some o->h2.get? a=some o)->DN P w a xs h2:=fun h1 h2 ⟨o,es,ep,e,r⟩ k=>⟨o,es,ep,k _ e,r⟩
section
variable{X:Cx}{pins:Z3}{σ:St}{H:Hp}{s:Shared}
theorem zfx:∀{l:Z4} {its:List Value},Vals (l.map oV) its->ItemsAre (zcL X.prog X.w) l its
 | [],_,.nil=>.nil
 | none::l,_,.cons r t=>by
  cases r;exact .cons rfl (zfx t)
 | some i::l,_,.cons r t=>by
  obtain ⟨u,rfl⟩:=r;exact .cons (by simp [zcL,zkZ,Value.isInt]) (zfx t)
def Inv.nest(I:Inv X pins σ H s)(h:zjy H kb k):zeU X.prog X.w s.heap k kb:=by
 obtain ⟨b,h1,h2⟩:=h;obtain ⟨its,rv,⟨o,ho,hc,n,hd⟩,_⟩:=I.tuple (SqT.of (K:=X.K) h1);obtain ⟨its2,rv2,⟨o2,ho2,hc2,n2,hd2⟩,_⟩:=I.tuple (SqT.of (K:=X.K) h2)
 cases rv with
 | cons r1 rr =>
  cases rr with
  | cons r2 rr =>
   cases rr;obtain ⟨t,rfl⟩:=r1;cases r2;exact ⟨o,_,n,t,b,ho,hc,hd,rfl,o2,_,n2,ho2,hc2,hd2,by simpa using zfx rv2⟩
def zo9.keys(I:Inv X pins σ H s):zo9 H xs m->∀x∈xs,zeU X.prog X.w s.heap x.1 x.2.1:=by
 intro h
 induction h with
 | nil=>intro x hx;simp at hx
 | cons h t ih =>
  intro x hx
  rcases yaA.mp hx with rfl | hx
  ·exact I.nest h.2.1
  ·exact ih x hx
def Inv.ndict(I:Inv X pins σ H s)(h:H a=some (.ext (DN X.prog X.w a xs)))(e:zo9 H xs m):s.heap.DictOfH (zeJ X.prog X.w) a xs/\(a == sysModules)=false:=by
 obtain ⟨⟨o,es,ep,h1,h2,h3,h4,h5,h6⟩,_⟩:=I.hok a _ h;exact ⟨⟨o,es,ep,h1,h2,h3,h4,e.keys I,h5⟩,h6⟩
def zfb(e:zo9 H xs m)(k:NK):(m.lookup k=none/\atKey xs k=none)\/∃c p,m.lookup k=some c/\atKey xs k=some p/\zbM c p.2:=by
 induction e with
 | nil=>exact .inl ⟨rfl,rfl⟩
 | @cons x p l1 l2 h t ih =>
  obtain ⟨h1,h2,h3⟩:=h
  by_cases hk:x.1=k
  ·refine .inr ⟨p.2,x.2,?_,?_,h3⟩
   ·obtain ⟨pk,pc⟩:=p;simp only at h1;subst h1;rw [yaE,hk];simp
   ·simp [atKey,hk]
  ·have hk':¬ p.1=k:=by rw [<-h1];exact hk
   have e1:List.lookup k (p::l2)=List.lookup k l2:=by
    obtain ⟨pk,pc⟩:=p;rw [yaE]
    have:(k == pk)=false:=by
     rw [yaW];exact fun z=>hk' z.symm
    rw [this]
   have e2:atKey (x::l1) k=atKey l1 k:=by simp [atKey,ybU,hk]
   rw [e1,e2];exact ih
theorem zpv(hu:X.A.units+16<cLine):OpR X (compareOp .NotIn) (fun x y H Q=>∃kb a k xs m,x=.ref kb/\y=.ref a/\zjy H kb k/\H a=some (.ext (DN X.prog X.w a xs))/\zo9 H xs m/\Q (.bl (m.lookup k).isNone) H):=by
 intro pins s σ H x y v u Q I rx ry h;obtain ⟨kb,a,k,xs,m,rfl,rfl,hk,hx,he,q⟩:=h;cases rx;cases ry;obtain ⟨hm,hd⟩:=I.ndict hx he;refine wpAny_notIn_heap (knd:=zeJ X.prog X.w) (k:=k) (by show X.A.units+1+8<cLine;omega) (I.nest hk) hd hm ⟨.bl _,H,I.tok _,?_,q⟩
 rcases zfb he k with ⟨e1,e2⟩ | ⟨c,p,e1,e2,_⟩<;>rw [e1,e2]<;>rfl
def zt2(hu:X.A.units+16<cLine):IxR X (fun x y H Q=>∃a kb k xs m c,x=.ref a/\y=.ref kb/\zjy H kb k/\H a=some (.ext (DN X.prog X.w a xs))/\zo9 H xs m/\m.lookup k=some c/\Q c H):=by
 intro value slice pins s σ H x y v u Q I rx ry h hs;obtain ⟨a,kb,k,xs,m,c,rfl,rfl,hk,hx,he,hl,q⟩:=h;cases rx;cases ry;obtain ⟨hm,hd⟩:=I.ndict hx he
 rcases zfb he k with ⟨e1,_⟩ | ⟨c',p,e1,e2,r⟩
 ·rw [e1] at hl;cases hl
 ·rw [e1] at hl;cases hl;exact ycn (x:=p.2) hm.typeIs slot_dict_getitem.lookup (wpAny_getItem_heap (knd:=zeJ X.prog X.w) (k:=k) (by show X.A.units+1+8<cLine;omega) (I.nest hk) hm e2 ⟨rfl,c,H,I.tok _,r,q⟩) hs
theorem zqh(hu:X.A.units+16<cLine):zwU X (fun o i v H Q=>∃a kb k xs m,o=.ref a/\i=.ref kb/\zjy H kb k/\H a=some (.ext (DN X.prog X.w a xs))/\zo9 H xs m/\m.lookup k=none/\m.length<=1000000/\∀u,zbM v u->Q (upd H a (.ext (DN X.prog X.w a (xs++[(k,kb,u)]))))):=by
 intro pins s σ H o i v ov iv u Q I ro ri rv h;obtain ⟨a,kb,k,xs,m,rfl,rfl,hk,hx,he,hl,hz,q⟩:=h;cases ro;cases ri;obtain ⟨hm,hd⟩:=I.ndict hx he;have hlen:xs.length=m.length:=Paired.length he
 have e2:atKey xs k=none:=by
  rcases zfb he k with ⟨_,e2⟩ | ⟨c',p,e1,_,_⟩
  ·exact e2
  ·rw [e1] at hl;cases hl
 refine wpAny_setItem_heap (knd:=zeJ X.prog X.w) (k:=k) (by show X.A.units+1+8<cLine;omega) (I.nest hk) hm (fun h' hm' sb=>?_) (by rw [hlen];exact yak hz (by decide));rw [storedH_new e2] at hm';obtain ⟨o,es,ep,g1,g2,g3,g4,g5,g6⟩:=hm';have dn:DN X.prog X.w a (xs++[(k,kb,u)]) h':=⟨o,es,ep,g1,g2,g3,g4,g6,hd⟩;refine ⟨upd H a (.ext (DN X.prog X.w a (xs++[(k,kb,u)]))),?_,q u rv⟩;exact I.write (x:=a) (e:=a) (by rw [hx];trivial) (.inl rfl) (fun b o hb z=>(sb.2 b hb).trans z) ⟨_,g1⟩ ⟨dn,⟨_,g1⟩,zku⟩
noncomputable def zvs(P:Program)(w:World):TE:=fun _ H Q=>∀p,H p=none->Q (.ref p) (upd H p (.ext (DN P w p [])))
def zqF:PE X (.Dict [] [] pos) (zvs X.prog X.w):=fun pins s σ H Q I h=>by
 have big:sysModules<s.heap.objs.size:=Nat.lt_trans (show sysModules<mainGlobals by decide) (I.mod.glob.keeps I.bk).lt;have hne:(s.heap.objs.size == sysModules)=false:=yaW.mpr (Ne.symm (yaz big));have dn:DN X.prog X.w s.heap.objs.size [] (s.heap.push { cls:=.type "dict",data:=.dict #[] }):=⟨_,#[],0,yau _ rfl,⟨rfl,rfl,rfl⟩,rfl,rfl,List.nodup_nil,hne⟩;refine wpAny_Dict_empty ⟨.ref s.heap.objs.size,upd H s.heap.objs.size (.ext (DN X.prog X.w s.heap.objs.size [])),?_,rfl,h _ (I.hok.fresh (yam _))⟩;exact I.laid (a:=s.heap.objs.size) (t':=s.toks) (fun _ _ q=>yaf _ q) (yam _) ⟨dn,⟨_,yau _ rfl⟩,zku⟩
end
section
variable{X:Cx}{pins:Z3}{σ:St}{H:Hp}{s:Shared}{a:Addr}{y v:V}{u r:Value}{o:Option V}{A:Around}{E:Z5}
def Inv.big(I:Inv X pins σ H s):sysModules<s.heap.objs.size:=by
 have h:mainGlobals<s.heap.objs.size:=(I.mod.glob.keeps I.bk).lt;exact Nat.lt_trans (by decide) h
end
structure M1(X:Cx)(o:Expr)(m:Str)(apos:Pos)(e:Expr)(cpos:Pos):Prop where
 base:attributeBase o m X.env (eval o X.env)=eval o X.env
 few:((backTo cpos (starEach [e] X.env)).all (fun x=>!x.1)&&(backToKw cpos (keywordEach [] X.env)).all (fun x=>x.1.isSome)
  && decide (([e]:List Expr).length+([]:List Keyword).length+(if ([]:List Keyword).isEmpty then 0 else 1)<30))=true
 line:(apos.endLine == cpos.line)=true
 trees:backTo cpos (starEach [e] X.env)=[(false,eval e X.env)]
structure M2(X:Cx)(o:Expr)(m:Str)(apos:Pos)(e f:Expr)(cpos:Pos):Prop where
 base:attributeBase o m X.env (eval o X.env)=eval o X.env
 few:((backTo cpos (starEach [e,f] X.env)).all (fun x=>!x.1)&&(backToKw cpos (keywordEach [] X.env)).all (fun x=>x.1.isSome)
  && decide (([e,f]:List Expr).length+([]:List Keyword).length+(if ([]:List Keyword).isEmpty then 0 else 1)<30))=true
 line:(apos.endLine == cpos.line)=true
 trees:backTo cpos (starEach [e,f] X.env)=[(false,eval e X.env),(false,eval f X.env)]
noncomputable abbrev PA2:=(Int×Int)×Addr
noncomputable def DO(P:Program)(w:World)(a:Addr)(ps:List (Option Int×Int))(h:Heap):Prop:=∃vs,h.DictOf (zcL P w) a vs/\Paired (fun (v:Option Int×Value) (p:Option Int×Int)=>v.1=p.1/\∃t,v.2=.int p.2 t) vs ps/\(a == sysModules)=false
def zkt:∀h1 h2:Heap,DO P w a ps h1->(∀o,h1.get? a=some o->h2.get? a=some o)->DO P w a ps h2:=fun h1 h2 ⟨vs,⟨o,es,ep,e,r⟩,q⟩ k=>⟨vs,⟨o,es,ep,k _ e,r⟩,q⟩
end L2
namespace S2
open PySem PySem.Spec PyProof.Rows L2
noncomputable abbrev St:=L2.St
inductive D where
 | non | bl (b:Bool) | int (i:Int) | str (x:Str) | tup (l:List D) | lst (l:List D) | dic (l:List (D×D)) | ref (n:Nat) | exc (c:Str) | scr (l:List Int)
inductive Root where
 | slot (i:Nat) | fld (n:Nat) (f:Str) | obj (n:Nat) | far
 deriving DecidableEq
noncomputable abbrev Ow:=Addr->Option Root
structure Cf where
 ad:Str->Addr
 K:PySem.W.Frag
 P:Program
 wo:PySem.World
noncomputable instance:CoeFun Cf (fun _=>Str->Addr):=⟨Cf.ad⟩
structure Wd where
 H:Hp
 ow:Ow
 mu:List Addr
noncomputable def oI:Option Int->D | none=>.non | some i=>.int i
def odD(ps:List (Option Int×Int)):List (D×D):=(.non,.non)::ps.map fun p=>(oI p.1,.int p.2)
inductive Exd(cl:Cf)(w:Wd):HO->List (D×D)->Prop
 | od {a:Addr} {ps:List (Option Int×Int)}:Exd cl w (.ext (DO cl.P cl.wo a ps)) (odD ps)
mutual
inductive Shd(cl:Cf)(w:Wd):V->D->Prop
 | non:Shd cl w .non .non
 | bl (b:Bool):Shd cl w (.bl b) (.bl b)
 | int (i:Int):Shd cl w (.int i) (.int i)
 | str (x:Str):Shd cl w (.str x) (.str x)
 | tup {a:Addr} {xs:List V} {ds:List D}:w.H a=some (.tup xs)->w.ow a=none->Shds cl w xs ds->Shd cl w (.ref a) (.tup ds)
 | lst {a:Addr} {xs:List V} {ds:List D}:w.H a=some (.lst xs)->w.ow a=none->Shds cl w xs ds->Shd cl w (.ref a) (.lst ds)
 | dicK {a:Addr} {kvs:List (Key×V)} {ds:List (D×D)}:w.H a=some (.dK kvs)->w.ow a=none->ShdK cl w kvs ds->Shd cl w (.ref a) (.dic ds)
 | dicX {a:Addr} {o:HO} {ds:List (D×D)}:w.H a=some o->w.ow a=none->Exd cl w o ds->Shd cl w (.ref a) (.dic ((.bl true,.non)::ds))
 | ref {n:Nat} {a:Addr}:w.mu[n]?=some a->Shd cl w (.ref a) (.ref n)
 | scr {a:Addr} {o:Obj} {l:List Int}:w.H a=some (.frz o (.lst (l.map V.int)))->w.ow a=none->Shd cl w (.ref a) (.scr l)
 | scrK {a:Addr} {l:List Int}:(∀H:Hp,SqL cl.K H a (l.map V.int))->Shd cl w (.ref a) (.scr l)
 | exc {a:Addr} {c:Str} {ob:Obj}:w.H a=some (.frz ob (.own a))->w.ow a=none->ob.cls=.ref (cl c)->Shd cl w (.ref a) (.exc c)
inductive Shds(cl:Cf)(w:Wd):List V->List D->Prop
 | nil:Shds cl w [] []
 | cons {v:V} {d:D} {vs:List V} {ds:List D}:Shd cl w v d->Shds cl w vs ds->Shds cl w (v::vs) (d::ds)
inductive ShdK(cl:Cf)(w:Wd):List (Key×V)->List (D×D)->Prop
 | nil:ShdK cl w [] []
 | consI {i:Int} {v:V} {d:D} {vs:List (Key×V)} {ds:List (D×D)}:Shd cl w v d->ShdK cl w vs ds->ShdK cl w ((.inl i,v)::vs) ((.int i,d)::ds)
 | consS {x:Str} {v:V} {d:D} {vs:List (Key×V)} {ds:List (D×D)}:Shd cl w v d->ShdK cl w vs ds->ShdK cl w ((.inr x,v)::vs) ((.str x,d)::ds)
end
structure Fut(w w':Wd):Prop where
 keep:∀a o,w.H a=some o->w.ow a=none->w'.H a=some o/\w'.ow a=none
 mu:∀(n:Nat) (a:Addr),w.mu[n]?=some a->w'.mu[n]?=some a
def Fut.refl(w:Wd):Fut w w:=⟨fun _ _ h k=>⟨h,k⟩,fun _ _ h=>h⟩
def Fut.trans(a:Fut w w1)(b:Fut w1 w2):Fut w w2:=⟨fun c o h k=>b.keep c o (a.keep c o h k).1 (a.keep c o h k).2,fun n c h=>b.mu n c (a.mu n c h)⟩
theorem Exd.up(f:Fut w w'):Exd cl w o ds->Exd cl w' o ds
 | .od=>.od
mutual
theorem Shd.up{cl:Cf}{w w':Wd}(f:Fut w w'):∀{v:V} {d:D},Shd cl w v d->Shd cl w' v d
 | _,_,.non=>.non
 | _,_,.bl b=>.bl b
 | _,_,.int i=>.int i
 | _,_,.str x=>.str x
 | _,_,.tup e k r=>.tup (f.keep _ _ e k).1 (f.keep _ _ e k).2 (Shds.up f r)
 | _,_,.lst e k r=>.lst (f.keep _ _ e k).1 (f.keep _ _ e k).2 (Shds.up f r)
 | _,_,.dicK e k r=>.dicK (f.keep _ _ e k).1 (f.keep _ _ e k).2 (ShdK.up f r)
 | _,_,.dicX e k x=>.dicX (f.keep _ _ e k).1 (f.keep _ _ e k).2 (x.up f)
 | _,_,.ref e=>.ref (f.mu _ _ e)
 | _,_,.scr e k=>.scr (f.keep _ _ e k).1 (f.keep _ _ e k).2
 | _,_,.scrK h=>.scrK h
 | _,_,.exc e k h=>.exc (f.keep _ _ e k).1 (f.keep _ _ e k).2 h
theorem Shds.up{cl:Cf}{w w':Wd}(f:Fut w w'):∀{vs:List V} {ds:List D},Shds cl w vs ds->Shds cl w' vs ds
 | _,_,.nil=>.nil
 | _,_,.cons r t=>.cons (Shd.up f r) (Shds.up f t)
theorem ShdK.up{cl:Cf}{w w':Wd}(f:Fut w w'):∀{vs:List (Key×V)} {ds:List (D×D)},ShdK cl w vs ds->ShdK cl w' vs ds
 | _,_,.nil=>.nil
 | _,_,.consI r t=>.consI (Shd.up f r) (ShdK.up f t)
 | _,_,.consS r t=>.consS (Shd.up f r) (ShdK.up f t)
end
section
variable{cl:Cf}{w:Wd}
theorem Shds.length:∀{vs:List V} {ds:List D},Shds cl w vs ds->vs.length=ds.length
 | _,_,.nil=>rfl
 | _,_,.cons _ t=>by rw [yai,yai,Shds.length t]
theorem Shds.get:∀{vs:List V} {ds:List D},Shds cl w vs ds->∀{i:Nat} {v:V},vs[i]?=some v->∃d,ds[i]?=some d/\Shd cl w v d
 | _,_,.nil,i,v,e=>by simp at e
 | _,_,.cons r _,0,v,e=>by simp at e;subst e;exact ⟨_,rfl,r⟩
 | _,_,.cons _ t,i+1,v,e=>by
  obtain ⟨d,h1,h2⟩:=Shds.get t (i:=i) (v:=v) (by simpa using e);exact ⟨d,by simpa using h1,h2⟩
theorem Shds.at:∀{vs:List V} {ds:List D},Shds cl w vs ds->∀{i:Nat} {d:D},ds[i]?=some d->∃v,vs[i]?=some v/\Shd cl w v d
 | _,_,.nil,i,v,e=>by simp at e
 | _,_,.cons r _,0,v,e=>by simp at e;subst e;exact ⟨_,rfl,r⟩
 | _,_,.cons _ t,i+1,v,e=>by
  obtain ⟨d,h1,h2⟩:=Shds.at t (i:=i) (d:=v) (by simpa using e);exact ⟨d,by simpa using h1,h2⟩
theorem Shds.append:∀{vs ws:List V} {ds es:List D},Shds cl w vs ds->Shds cl w ws es->Shds cl w (vs++ws) (ds++es)
 | _,_,_,_,.nil,s=>s
 | _,_,_,_,.cons r t,s=>.cons r (Shds.append t s)
theorem Shds.take:∀{vs:List V} {ds:List D} (n:Nat),Shds cl w vs ds->Shds cl w (vs.take n) (ds.take n)
 | _,_,0,_=>.nil
 | _,_,_+1,.nil=>.nil
 | _,_,n+1,.cons r t=>.cons r (Shds.take n t)
theorem Shds.drop:∀{vs:List V} {ds:List D} (n:Nat),Shds cl w vs ds->Shds cl w (vs.drop n) (ds.drop n)
 | _,_,0,s=>s
 | _,_,_+1,.nil=>.nil
 | _,_,n+1,.cons _ t=>Shds.drop n t
theorem Shds.flat(h:Shds cl w vs ds):∀n:Nat,Shds cl w (List.replicate n vs).flatten (List.replicate n ds).flatten
 | 0=>.nil
 | n+1=>by
  rw [ya4,ya4,ybx,ybx];exact Shds.append h (Shds.flat h n)
end
inductive Top(cl:Cf)(w:Wd):HO->D->Prop
 | lst {xs:List V} {ds:List D}:Shds cl w xs ds->Top cl w (.lst xs) (.lst ds)
 | dicK {kvs:List (Key×V)} {ds:List (D×D)}:ShdK cl w kvs ds->Top cl w (.dK kvs) (.dic ds)
 | dicX {o:HO} {ds:List (D×D)}:Exd cl w o ds->Top cl w o (.dic ((.bl true,.non)::ds))
theorem Top.up(f:Fut w w'):Top cl w o d->Top cl w' o d
 | .lst h=>.lst (h.up f)
 | .dicK h=>.dicK (h.up f)
 | .dicX x=>.dicX (x.up f)
noncomputable def zkB(cl:Cf)(w:Wd)(r:Root):Bool->V->D->Prop
 | false,v,d=>Shd cl w v d
 | true,v,d=>∃a o,v=.ref a/\w.ow a=some r/\w.H a=some o/\Top cl w o d
theorem zkB.keep(f:Fut w w')(k:∀a o,w.H a=some o->w.ow a=some r->w'.H a=some o/\w'.ow a=some r):∀{b:Bool} {v:V} {d:D},zkB cl w r b v d->zkB cl w' r b v d
 | false,_,_,h=>Shd.up f h
 | true,_,_,⟨a,o,e,h1,h2,t⟩=>⟨a,o,e,(k a o h2 h1).2,(k a o h2 h1).1,t.up f⟩
noncomputable def oDn:Option Int->D | none=>.non | some i=>.int i
def nkD(k:NK):D:=.tup [.int k.1,.tup (k.2.map oDn)]
inductive ShdN(cl:Cf)(w:Wd):List (NK×V)->List (D×D)->Prop
 | nil:ShdN cl w [] []
 | cons {k:NK} {v:V} {d:D} {m:List (NK×V)} {ds:List (D×D)}:Shd cl w v d->ShdN cl w m ds->ShdN cl w ((k,v)::m) ((nkD k,d)::ds)
theorem ShdN.up(f:Fut w w'):∀{m:List (NK×V)} {ds:List (D×D)},ShdN cl w m ds->ShdN cl w' m ds
 | _,_,.nil=>.nil
 | _,_,.cons r t=>.cons (r.up f) (ShdN.up f t)
noncomputable def znC(w:Wd)(kb:Addr)(k:NK):Prop:=∃b,(w.H kb=some (.tup [.int k.1,.ref b])/\w.ow kb=none)/\w.H b=some (.tup (k.2.map oV))/\w.ow b=none
def znC.up(f:Fut w w')(h:znC w kb k):znC w' kb k:=by
 obtain ⟨b,h1,h2⟩:=h;exact ⟨b,f.keep _ _ h1.1 h1.2,f.keep _ _ h2.1 h2.2⟩
def znC.at(h:znC w kb k):zjy w.H kb k:=by
 obtain ⟨b,h1,h2⟩:=h;exact ⟨b,h1.1,h2.1⟩
noncomputable def zkD(w:Wd):List (NK×Addr×Value)->List (NK×V)->Prop:=Paired fun (x:NK×Addr×Value) (p:NK×V)=>x.1=p.1/\znC w x.2.1 x.1/\zbM p.2 x.2.2
theorem zkD.up(f:Fut w w'):∀{xs:List (NK×Addr×Value)} {m:List (NK×V)},zkD w xs m->zkD w' xs m
 | _,_,.nil=>.nil
 | _,_,.cons h t=>.cons ⟨h.1,h.2.1.up f,h.2.2⟩ (zkD.up f t)
theorem zkD.ents:∀{xs:List (NK×Addr×Value)} {m:List (NK×V)},zkD w xs m->zo9 w.H xs m
 | _,_,.nil=>.nil
 | _,_,.cons h t=>.cons ⟨h.1,h.2.1.at,h.2.2⟩ (zkD.ents t)
theorem zkD.snoc(h:x.1=p.1/\znC w x.2.1 x.1/\zbM p.2 x.2.2):∀{xs:List (NK×Addr×Value)} {m:List (NK×V)},zkD w xs m->zkD w (xs++[x]) (m++[p])
 | _,_,.nil=>.cons h .nil
 | _,_,.cons h' t=>.cons h' (zkD.snoc h t)
theorem ShdN.snoc(h:Shd cl w v d):∀{m:List (NK×V)} {ds:List (D×D)},ShdN cl w m ds->ShdN cl w (m++[(k,v)]) (ds++[(nkD k,d)])
 | _,_,.nil=>.cons h .nil
 | _,_,.cons r t=>.cons r (ShdN.snoc h t)
noncomputable def zAE(cl:Cf)(w:Wd)(r:Root)(v:V)(d:D):Prop:=∃a xs m ds,v=.ref a/\w.ow a=some r/\w.H a=some (.ext (DN cl.P cl.wo a xs))/\zkD w xs m/\ShdN cl w m ds/\d=.dic ds
noncomputable def zjz(cl:Cf)(w:Wd)(r:Root)(own:Bool)(v:V)(d:D):Prop:=(own=false/\Shd cl w v d)\/(own=true/\zAE cl w r v d)
def zjz.keep(f:Fut w w')(k:∀a o,w.H a=some o->w.ow a=some r->w'.H a=some o/\w'.ow a=some r)(h:zjz cl w r b v d):zjz cl w' r b v d:=by
 rcases h with ⟨e,h⟩ | ⟨e,a,xs,m,ds,e1,e2,e3,e4,e5,e6⟩
 ·exact .inl ⟨e,h.up f⟩
 ·exact .inr ⟨e,a,xs,m,ds,e1,(k a _ e3 e2).2,(k a _ e3 e2).1,e4.up f,e5.up f,e6⟩
structure Ob where
 cls:Str
 fs:List (Str×Bool×D)
noncomputable abbrev Sto:=List Ob
noncomputable def zd0(cl:Cf)(w:Wd)(n:Nat):List (Str×V)->List (Str×Bool×D)->Prop:=Paired fun p q=>p.1=q.1/\zjz cl w (.fld n q.1) q.2.1 p.2 q.2.2
noncomputable def zuK(cl:Cf)(w:Wd)(n:Nat)(a:Addr)(ob:Ob):Prop:=w.ow a=some (.obj n)/\∃dx fs,w.H a=some (.ins (cl ob.cls) dx fs)/\zd0 cl w n fs ob.fs
noncomputable def ztr(n:Nat):Option Root->Prop | some (.obj m)=>m=n | some (.fld m _)=>m=n | _=>False
theorem zd0.keep(f:Fut w w')(k:∀a o,w.H a=some o->ztr n (w.ow a)->w'.H a=some o/\w'.ow a=w.ow a):∀{fs:List (Str×V)} {gs:List (Str×Bool×D)},zd0 cl w n fs gs->zd0 cl w' n fs gs
 | _,_,.nil=>.nil
 | _,_,.cons ⟨e,h⟩ t=>.cons ⟨e,h.keep f fun a o ha hr=>by
   have:=k a o ha (by rw [hr];rfl)
   exact ⟨this.1,this.2.trans hr⟩⟩ (zd0.keep f k t)
theorem zuK.keep(f:Fut w w')(k:∀a o,w.H a=some o->ztr n (w.ow a)->w'.H a=some o/\w'.ow a=w.ow a)(h:zuK cl w n a ob):zuK cl w' n a ob:=by
 obtain ⟨h1,dx,fs,h2,h3⟩:=h;have:=k a _ h2 (by rw [h1];rfl);exact ⟨this.2.trans h1,dx,fs,this.1,h3.keep f k⟩
structure Base where
 Fr:Hp
 fw:Ow
structure World'(cl:Cf)(B:Base)(w:Wd)(S:Sto):Prop where
 fr:∀a o,B.Fr a=some o->w.H a=some o/\w.ow a=B.fw a
 own:∀a r,w.ow a=some r->r=.far\/B.Fr a=none
 len:w.mu.length=S.length
 obj:∀(n:Nat) (ob:Ob),S[n]?=some ob->∃a,w.mu[n]?=some a/\zuK cl w n a ob
noncomputable abbrev Env:=List (Option (Bool×D))
structure Rel(cl:Cf)(B:Base)(σ:St)(w:Wd)(ρ:Env)(S:Sto):Prop where
 wd:World' cl B w S
 len:σ.length=ρ.length
 slots:∀(i:Nat) (o:Bool) (d:D),ρ[i]?=some (some (o,d))->∃v,σ[i]?=some (some v)/\zkB cl w (.slot i) o v d
structure Grow(w w':Wd):Prop where
 keep:∀a o,w.H a=some o->w'.H a=some o/\w'.ow a=w.ow a
 new:∀a r,w'.ow a=some r->w.H a=none->w.ow a=some r\/r=.far
 mu:w'.mu=w.mu
def Grow.refl(w:Wd):Grow w w:=⟨fun _ _ h=>⟨h,rfl⟩,fun _ _ h _=>.inl h,rfl⟩
def Grow.fut(g:Grow w w'):Fut w w':=⟨fun a o h k=>⟨(g.keep a o h).1,(g.keep a o h).2.trans k⟩,fun n a h=>by rw [g.mu];exact h⟩
def World'.grow(W:World' cl B w S)(g:Grow w w'):World' cl B w' S where
 fr:=fun a o h=>by
  obtain ⟨h1,h2⟩:=W.fr a o h;exact ⟨(g.keep a o h1).1,(g.keep a o h1).2.trans h2⟩
 own:=fun a r h=>by
  cases e:w.H a with
  | none=>exact (g.new a r h e).elim (W.own a r) .inl
  | some o=>exact W.own a r (by rw [<-(g.keep a o e).2];exact h)
 len:=by rw [g.mu];exact W.len
 obj:=fun n ob h=>by
  obtain ⟨a,e,x⟩:=W.obj n ob h;exact ⟨a,by rw [g.mu];exact e,x.keep g.fut fun a o ha _=>g.keep a o ha⟩
theorem Rel.grow(R:Rel cl B σ w ρ S)(g:Grow w w'):Rel cl B σ w' ρ S where
 wd:=R.wd.grow g
 len:=R.len
 slots:=fun i o d h=>by
  obtain ⟨v,e,x⟩:=R.slots i o d h;exact ⟨v,e,x.keep g.fut fun a o ha hr=>⟨(g.keep a o ha).1,(g.keep a o ha).2.trans hr⟩⟩
def Wd.add(w:Wd)(p:Addr)(o:HO):Wd:=⟨upd w.H p o,fun a=>if a=p then none else w.ow a,w.mu⟩
def zaD(h:w.H p=none)(o:HO):Grow w (w.add p o) where
 keep:=fun a u ha=>by
  have n:a≠p:=zaF ha h;refine ⟨?_,?_⟩
  ·show upd w.H p o a=_;rw [zau n];exact ha
  ·show (if a=p then none else w.ow a)=_;rw [if_neg n]
 new:=fun a r h1 h2=>by
  have h1':(if a=p then none else w.ow a)=some r:=h1;split at h1'
  ·cases h1'
  ·exact .inl h1'
 mu:=rfl
def ziZ{w:Wd}:(w.add p o).ow p=none:=if_pos rfl
def zns{w:Wd}:(w.add p o).H p=some o:=zaM
def Shd.newT(h:w.H p=none)(r:Shds cl w xs ds):Shd cl (w.add p (.tup xs)) (.ref p) (.tup ds):=.tup zns ziZ (r.up (zaD h _).fut)
def Shd.newL(h:w.H p=none)(r:Shds cl w xs ds):Shd cl (w.add p (.lst xs)) (.ref p) (.lst ds):=.lst zns ziZ (r.up (zaD h _).fut)
def Shd.newO(h:w.H p=none)(r:Top cl w o d):Shd cl (w.add p o) (.ref p) d:=by
 have g:=(zaD h o).fut
 cases r with
 | lst r=>exact .lst zns ziZ (r.up g)
 | dicK r=>exact .dicK zns ziZ (r.up g)
 | dicX x=>exact .dicX zns ziZ (x.up g)
inductive Out(α:Type) where
 | ok (a:α) (S:Sto) | exc (c:Str) (S:Sto) | bad
noncomputable abbrev Fe:=Env->Sto->Out D
inductive Fo where
 | nx (ρ:Env) (S:Sto) | rt (d:D) (S:Sto) | bk (ρ:Env) (S:Sto) | ct (ρ:Env) (S:Sto) | ex (c:Str) (ρ:Env) (S:Sto) | bad
noncomputable abbrev Fs:=Env->Sto->Fo
noncomputable def tE(cl:Cf)(E:St->XK)(f:Fe):TE:=fun σ H Q=>∃B w ρ S,w.H=H/\Rel cl B σ w ρ S/\match f ρ S with
 | .ok d S'=>∀v w',Rel cl B σ w' ρ S'->Fut w w'->Shd cl w' v d->Q v w'.H
 | .exc c S'=>∀w',Rel cl B σ w' ρ S'->Fut w w'->E σ (.ref (cl c)) none w'.H
 | .bad=>False
noncomputable def tN(cl:Cf)(E:St->XK)(f:Fe):TE:=fun σ H Q=>∃B w ρ S,w.H=H/\Rel cl B σ w ρ S/\match f ρ S with
 | .ok d S'=>∀p o w',Rel cl B σ w' ρ S'->Fut w w'->w'.H p=none->Top cl w' o d->Q (.ref p) (upd w'.H p o)
 | .exc c S'=>∀w',Rel cl B σ w' ρ S'->Fut w w'->E σ (.ref (cl c)) none w'.H
 | .bad=>False
noncomputable def Hd(cl:Cf)(σ:St)(ρ:Env)(w:Wd)(v:V)(d:D):Prop:=Shd cl w v d\/∃i:Nat,ρ[i]?=some (some (true,d))/\σ[i]?=some (some v)
noncomputable def tH(cl:Cf)(E:St->XK)(f:Fe):TE:=fun σ H Q=>∃B w ρ S,w.H=H/\Rel cl B σ w ρ S/\match f ρ S with
 | .ok d S'=>∀v w',Rel cl B σ w' ρ S'->Fut w w'->Hd cl σ ρ w' v d->Q v w'.H
 | .exc c S'=>∀w',Rel cl B σ w' ρ S'->Fut w w'->E σ (.ref (cl c)) none w'.H
 | .bad=>False
inductive TopV(cl:Cf)(w:Wd):V->D->Prop
 | sh {v:V} {d:D}:Shd cl w v d->TopV cl w v d
 | ow {a:Addr} {o:HO} {d:D}:w.H a=some o->Top cl w o d->TopV cl w (.ref a) d
def Hd.top(h:Hd cl σ ρ w v d)(R:Rel cl B σ w ρ S):TopV cl w v d:=by
 rcases h with h | ⟨i,h1,h2⟩
 ·exact .sh h
 ·obtain ⟨v',e,a,o,rfl,_,h3,t⟩:=R.slots i true d h1;rw [h2] at e;cases e;exact .ow h3 t
theorem Hd.up(f:Fut w w')(h:Hd cl σ ρ w v d):Hd cl σ ρ w' v d:=by
 rcases h with h | h
 ·exact .inl (h.up f)
 ·exact .inr h
def PE.imp(h:PE X e t)(i:∀σ H Q,t' σ H Q->t σ H Q):PE X e t':=fun pins s σ H Q I q=>h pins s σ H Q I (i _ _ _ q)
def zvp(h:tE cl E f σ H Q):tN cl E f σ H Q:=by
 obtain ⟨B,w,ρ,S,e,R,h⟩:=h;refine ⟨B,w,ρ,S,e,R,?_⟩
 cases hf:f ρ S with
 | ok d S' =>
  rw [hf] at h;intro p o w' R' F' hp t;exact h (.ref p) (w'.add p o) (R'.grow (zaD hp o)) (F'.trans (zaD hp o).fut) (Shd.newO hp t)
 | exc c S'=>rwa [hf] at h
 | bad=>rwa [hf] at h
def zvo(h:tH cl E f σ H Q):tE cl E f σ H Q:=by
 obtain ⟨B,w,ρ,S,e,R,h⟩:=h;refine ⟨B,w,ρ,S,e,R,?_⟩
 cases hf:f ρ S with
 | ok d S' =>
  rw [hf] at h;intro v w' R' F' t;exact h v w' R' F' (.inl t)
 | exc c S'=>rwa [hf] at h
 | bad=>rwa [hf] at h
noncomputable def Out.bind{α β:Type}(o:Out α)(k:α->Sto->Out β):Out β:=match o with | .ok a S=>k a S | .exc c S=>.exc c S | .bad=>.bad
noncomputable def Out.of{α:Type}(o:Option α)(S:Sto):Out α:=match o with | some a=>.ok a S | none=>.bad
@[simp] def Out.bind_ok{α β:Type}(a:α)(S:Sto)(k:α->Sto->Out β):(Out.ok a S).bind k=k a S:=rfl
@[simp] def Out.bind_exc{α β:Type}(c:Str)(S:Sto)(k:α->Sto->Out β):(Out.exc c S:Out α).bind k=.exc c S:=rfl
@[simp] def Out.bind_bad{α β:Type}(k:α->Sto->Out β):(Out.bad:Out α).bind k=.bad:=rfl
@[simp] def Out.of_some{α:Type}(a:α)(S:Sto):Out.of (some a) S=.ok a S:=rfl
noncomputable def zac(i:Nat):Fe:=fun ρ S=>match ρ[i]? with | some (some (false,d))=>.ok d S | _=>.bad
noncomputable def zai(i:Nat):Fe:=fun ρ S=>match ρ[i]? with | some (some (_,d))=>.ok d S | _=>.bad
noncomputable def zag(d:D):Fe:=fun _ S=>.ok d S
def eUn(g:D->Option D)(f:Fe):Fe:=fun ρ S=>(f ρ S).bind fun a S1=>Out.of (g a) S1
def zah(g:D->D->Option D)(f h:Fe):Fe:=fun ρ S=>(f ρ S).bind fun a S1=>(h ρ S1).bind fun b S2=>Out.of (g a b) S2
noncomputable def isB:D->Option Bool | .bl b=>some b | _=>none
def eIf(c f h:Fe):Fe:=fun ρ S=>(c ρ S).bind fun d S1=>match isB d with | some true=>f ρ S1 | some false=>h ρ S1 | none=>.bad
def zhL(f h:Fe):Fe:=fun ρ S=>(f ρ S).bind fun d S1=>match isB d with | some true=>h ρ S1 | some false=>.ok (.bl false) S1 | none=>.bad
def eOr(f h:Fe):Fe:=fun ρ S=>(f ρ S).bind fun d S1=>match isB d with | some true=>.ok (.bl true) S1 | some false=>h ρ S1 | none=>.bad
noncomputable def zd1:D->Option D | .bl b=>some (.bl (!b)) | _=>none
def zan:List Fe->Env->Sto->Out (List D)
 | [],_,S=>.ok [] S
 | f::fs,ρ,S=>(f ρ S).bind fun d S1=>(zan fs ρ S1).bind fun ds S2=>.ok (d::ds) S2
noncomputable def zbb(n:Nat):Bool:=decide (n<=100000)
def zc5(fs:List Fe):Fe:=fun ρ S=>(zan fs ρ S).bind fun ds S1=>if zbb ds.length then .ok (.tup ds) S1 else .bad
def ze9(fs:List Fe):Fe:=fun ρ S=>(zan fs ρ S).bind fun ds S1=>if zbb ds.length then .ok (.lst ds) S1 else .bad
def zaq(g:List D->Option D)(fs:List Fe):Fe:=fun ρ S=>(zan fs ρ S).bind fun ds S1=>Out.of (g ds) S1
def zbn(h:zbb n=true):n<=sizeLine:=yak (yar h) (by decide)
noncomputable def zcE:Expr->Bool | .Starred _ _=>false | _=>true
def zbN(h:zcE e=true):starEach (e::es) env=(false,eval e env)::starEach es env:=by
 cases e<;>first | rfl | cases h
theorem zbW:∀{es:List Expr},es.all zcE=true->(backTo pos (starEach es env)).any (·.1)=false
 | [],_=>rfl
 | e::es,h=>by
  rw [ybK,yac] at h;rw [zbN h.1];show (false||(backTo pos (starEach es env)).any (·.1))=false;rw [zbW h.2];rfl
theorem zii:∀{es:List Expr},es.all zcE=true->(backTo pos (starEach es env)).all (fun x=>!x.1)=true
 | [],_=>rfl
 | e::es,h=>by
  rw [ybK,yac] at h;rw [zbN h.1];show (true&&(backTo pos (starEach es env)).all (fun x=>!x.1))=true;rw [zii h.2];rfl
def ziG(h:es.all zcE=true)(hl:es.length<30):((backTo pos (starEach es env)).all (fun x=>!x.1)&&(backToKw pos (keywordEach [] env)).all (fun x=>x.1.isSome)
   && decide (es.length+([]:List Keyword).length+(if ([]:List Keyword).isEmpty then 0 else 1)<30))=true:=by
 rw [zii h];show (true&&true&&decide (es.length+0+0<30))=true;simpa using hl
noncomputable def Hds(cl:Cf)(σ:St)(ρ:Env)(w:Wd):List V->List D->Prop:=Paired (Hd cl σ ρ w)
noncomputable def znt(cl:Cf)(w:Wd):List V->List D->Prop:=Paired (TopV cl w)
theorem Hds.top(R:Rel cl B σ w ρ S):∀{vs:List V} {ds:List D},Hds cl σ ρ w vs ds->znt cl w vs ds
 | _,_,.nil=>.nil
 | _,_,.cons h t=>.cons (h.top R) (Hds.top R t)
noncomputable def tAs(cl:Cf)(E:St->XK)(fs:List Fe):TA:=fun σ H Q=>∃B w ρ S,w.H=H/\Rel cl B σ w ρ S/\match zan fs ρ S with
 | .ok ds S'=>∀vs w',Rel cl B σ w' ρ S'->Fut w w'->Shds cl w' vs ds->Q vs w'.H
 | .exc c S'=>∀w',Rel cl B σ w' ρ S'->Fut w w'->E σ (.ref (cl c)) none w'.H
 | .bad=>False
noncomputable def tHs(cl:Cf)(E:St->XK)(fs:List Fe):TA:=fun σ H Q=>∃B w ρ S,w.H=H/\Rel cl B σ w ρ S/\match zan fs ρ S with
 | .ok ds S'=>∀vs w',Rel cl B σ w' ρ S'->Fut w w'->Hds cl σ ρ w' vs ds->Q vs w'.H
 | .exc c S'=>∀w',Rel cl B σ w' ρ S'->Fut w w'->E σ (.ref (cl c)) none w'.H
 | .bad=>False
def PA.imp(h:PA X es t)(i:∀σ H Q,t' σ H Q->t σ H Q):PA X es t':=fun pos pins s σ H Q I q=>h pos pins s σ H Q I (i _ _ _ q)
def PT.imp(h:PT X e t)(i:∀σ H Q,t' σ H Q->t σ H Q):PT X e t':=fun pins s σ H Q I q=>h pins s σ H Q I (i _ _ _ q)
section
variable{X:Cx}{cl:Cf}{E:St->XK}{a b c e:Expr}{f h g:Fe}{pos:Pos}
def zsG(hN:X.N[i]?=some x)(hv:Vis X.env.scope x)(hd:(x == ("__debug__":Str))=false)(hcd:(x == ("__classdict__":Str))=false):PE X (.Name x pos) (tE cl E (zac i)):=by
 refine PE.imp (zdn hN hv hd hcd) ?_;rintro σ H Q ⟨B,w,ρ,S,rfl,R,q⟩;unfold zac at q;split at q
 ·rename_i o d S' hm;split at hm
  ·rename_i d' he;cases hm;obtain ⟨v,e,r⟩:=R.slots i false d he;exact ⟨v,e,q v w R (Fut.refl _) r⟩
  ·cases hm
 ·rename_i hm;split at hm<;>cases hm
 ·exact q.elim
def zsO(hN:X.N[i]?=some x)(hv:Vis X.env.scope x)(hd:(x == ("__debug__":Str))=false)(hcd:(x == ("__classdict__":Str))=false):PE X (.Name x pos) (tH cl E (zai i)):=by
 refine PE.imp (zdn hN hv hd hcd) ?_;rintro σ H Q ⟨B,w,ρ,S,rfl,R,q⟩;unfold zai at q;split at q
 ·rename_i o d S' hm;split at hm
  ·rename_i b d' he;cases hm;obtain ⟨v,e,r⟩:=R.slots i b d he;refine ⟨v,e,q v w R (Fut.refl _) ?_⟩
   cases b with
   | false=>exact .inl r
   | true=>exact .inr ⟨i,he,e⟩
  ·cases hm
 ·rename_i hm;split at hm<;>cases hm
 ·exact q.elim
def zlN(h:PE X e (tC v))(hd:∀w,Shd cl w v d):PE X e (tE cl E (zag d)):=by
 refine PE.imp h ?_;rintro σ H Q ⟨B,w,ρ,S,rfl,R,q⟩;exact q v w R (Fut.refl _) (hd w)
def zlO(h:PE X e (tE cl E f)):PE X e (tH cl E f):=PE.imp h fun _ _ _=>zvo
def zd5(h:PE X e (tN cl E f)):PE X e (tE cl E f):=PE.imp h fun _ _ _=>zvp
noncomputable def OpD(X:Cx)(cl:Cf)(op:Value->Value->Sem Value)(g:D->D->Option D):Prop:=OpR X op fun x y H Q=>∃w d e r,w.H=H/\TopV cl w x d/\TopV cl w y e/\g d e=some r/\∀v w',Grow w w'->Shd cl w' v r->Q v w'.H
noncomputable def UnD(X:Cx)(cl:Cf)(op:Value->Sem Value)(g:D->Option D):Prop:=UnR X op fun x H Q=>∃w d r,w.H=H/\TopV cl w x d/\g d=some r/\∀v w',Grow w w'->Shd cl w' v r->Q v w'.H
noncomputable def zjA(X:Cx)(cl:Cf)(fv:Value)(g:List D->Option D):Prop:=zet X fv fun xs H Q=>∃w ds r,w.H=H/\znt cl w xs ds/\g ds=some r/\∀v w',Grow w w'->Shd cl w' v r->Q v w'.H
noncomputable def zuL(X:Cx)(cl:Cf)(fv:Value)(g:List D->Option D):Prop:=zet X fv fun xs H Q=>∃w ds r,w.H=H/\znt cl w xs ds/\g ds=some r/\∀p o w',Grow w w'->w'.H p=none->Top cl w' o r->Q (.ref p) (upd w'.H p o)
noncomputable def IxD(X:Cx)(cl:Cf)(g:D->D->Option D):Prop:=IxR X fun x y H Q=>∃w d e r,w.H=H/\TopV cl w x d/\TopV cl w y e/\g d e=some r/\∀v w',Grow w w'->Shd cl w' v r->Q v w'.H
def two(hr:∀x y H Q,(∃w d e r,w.H=H/\TopV cl w x d/\TopV cl w y e/\gg d e=some r/\∀v w',Grow w w'->Shd cl w' v r->Q v w'.H)->r2 x y H Q)(σ:St)(H:Hp)(Q:VK)(q:tE cl E (zah gg f h) σ H Q):tOp r2 (tH cl E f) (tH cl E h) σ H Q:=by
 obtain ⟨B,w,ρ,S,rfl,R,q⟩:=q;refine ⟨B,w,ρ,S,rfl,R,?_⟩;unfold zah at q
 cases hf:f ρ S with
 | bad=>rwa [hf] at q
 | exc c S1=>rwa [hf] at q
 | ok d S1 =>
  rw [hf] at q;intro v w1 R1 F1 h1;refine ⟨B,w1,ρ,S1,rfl,R1,?_⟩;dsimp only [Out.bind] at q
  cases hh:h ρ S1 with
  | bad=>rwa [hh] at q
  | exc c S2=>rw [hh] at q;exact fun w2 R2 F2=>q w2 R2 (F1.trans F2)
  | ok e S2 =>
   rw [hh] at q;intro y w2 R2 F2 h2;dsimp only at q
   cases hg:gg d e with
   | none=>rw [hg] at q;exact q.elim
   | some r =>
    rw [hg] at q;exact hr _ _ _ _ ⟨w2,d,e,r,rfl,(h1.up F2).top R2,h2.top R2,hg,fun v' w' gr sh=>q v' w' (R2.grow gr) (F1.trans (F2.trans gr.fut)) sh⟩
def zpi(ho:OpD X cl (binaryOp op) gg)(ha:PE X a (tH cl E f))(hb:PE X b (tH cl E h)):PE X (.BinOp a op b pos) (tE cl E (zah gg f h)) :=
 PE.imp (zvR ho ha hb) (two fun _ _ _ _ z=>z)
def zvF(ho:IxD X cl gg)(ha:PE X a (tH cl E f))(hb:PE X b (tH cl E h))(hs:zhI b):PE X (.Subscript a b pos) (tE cl E (zah gg f h)) :=
 PE.imp (ztd ho ha hb hs) (two fun _ _ _ _ z=>z)
def zsN(ho:OpD X cl (compareOp op) gg)(ha:PE X a (tH cl E f))(hb:PE X b (tH cl E h))(hm:behindInMarks op b=false):PE X (.Compare a [op] [b] pos) (tE cl E (zah gg f h)) :=
 PE.imp (zma ho ha hb hm) (two fun _ _ _ _ z=>z)
def zvC(ho:UnD X cl (unaryOp op) gg)(ha:PE X a (tH cl E f)):PE X (.UnaryOp op a pos) (tE cl E (eUn gg f)):=by
 refine PE.imp (zvP ho ha) ?_;rintro σ H Q ⟨B,w,ρ,S,rfl,R,q⟩;refine ⟨B,w,ρ,S,rfl,R,?_⟩;unfold eUn at q
 cases hf:f ρ S with
 | bad=>rwa [hf] at q
 | exc c S1=>rwa [hf] at q
 | ok d S1 =>
  rw [hf] at q;intro v w1 R1 F1 h1;dsimp only [Out.bind] at q
  cases hg:gg d with
  | none=>rw [hg] at q;exact q.elim
  | some r =>
   rw [hg] at q;exact ⟨w1,d,r,rfl,h1.top R1,hg,fun v' w' gr sh=>q v' w' (R1.grow gr) (F1.trans gr.fut) sh⟩
noncomputable def tTr(cl:Cf)(E:St->XK)(f:Fe):TT:=fun σ H Q=>∃B w ρ S,w.H=H/\Rel cl B σ w ρ S/\match f ρ S with
 | .ok d S'=>match isB d with
  | some b=>∀w',Rel cl B σ w' ρ S'->Fut w w'->Q b w'.H
  | none=>False
 | .exc c S'=>∀w',Rel cl B σ w' ρ S'->Fut w w'->E σ (.ref (cl c)) none w'.H
 | .bad=>False
def zdQ{d:D}{b:Bool}(h:isB d=some b):d=.bl b:=by
 cases d<;>simp [isB] at h
 subst h;rfl
def zh0{w:Wd}{v:V}{b:Bool}(h:Shd cl w v (.bl b)):v=.bl b:=by cases h;rfl
def zjF(q:tTr cl E f σ H Q):tB (tE cl E f) σ H Q:=by
 obtain ⟨B,w,ρ,S,rfl,R,q⟩:=q;refine ⟨B,w,ρ,S,rfl,R,?_⟩
 cases hf:f ρ S with
 | bad=>rwa [hf] at q
 | exc c S1=>rwa [hf] at q
 | ok d S1 =>
  rw [hf] at q;intro v w1 R1 F1 h1;dsimp only at q
  cases hb:isB d with
  | none=>rw [hb] at q;exact q.elim
  | some b =>
   rw [hb] at q;rw [zdQ hb] at h1;exact ⟨b,zh0 h1,q w1 R1 F1⟩
def zbQ(h:PE X e (tE cl E f))(he:∀whole,isTrue e X.env whole=(do let v ← whole;standAt e.pos;holding [v] (truthy v))):PT X e (tTr cl E f) :=
 PT.imp (zs2 h he) fun _ _ _ q=>zjF q
def zlE(hr:∀x y H Q,(∃w d e r,w.H=H/\TopV cl w x d/\TopV cl w y e/\gg d e=some r/\∀v w',Grow w w'->Shd cl w' v r->Q v w'.H)->r2 x y H Q)(q:tTr cl E (zah gg f h) σ H Q):zpZ (tOp r2 (tH cl E f) (tH cl E h)) σ H Q :=
 two hr σ H _ (zjF q)
def zsr(ho:OpD X cl (compareOp op) gg)(ha:PE X a (tH cl E f))(hb:PE X b (tH cl E h))(hm:behindInMarks op b=false):PT X (.Compare a [op] [b] pos) (tTr cl E (zah gg f h)) :=
 PT.imp (zl2 ho ha hb hm) fun _ _ _ q=>zlE (fun _ _ _ _ z=>z) q
def PW.imp(h:PW X e t)(i:∀σ H Q,t' σ H Q->t σ H Q):PW X e t':=fun whole pins s σ H Q I q=>h whole pins s σ H Q I (i _ _ _ q)
def zpY(q:tTr cl E (zhL f h) σ H Q):zxJ (tTr cl E f) (tTr cl E h) σ H Q:=by
 obtain ⟨B,w,ρ,S,rfl,R,q⟩:=q;refine ⟨B,w,ρ,S,rfl,R,?_⟩;unfold zhL at q
 cases hf:f ρ S with
 | bad=>rwa [hf] at q
 | exc c S1=>rwa [hf] at q
 | ok d S1 =>
  rw [hf] at q;dsimp only [Out.bind] at q ⊢
  cases hb:isB d with
  | none=>rw [hb] at q;exact q.elim
  | some b =>
   rw [hb] at q;intro w1 R1 F1
   cases b with
   | false=>exact zoC (q w1 R1 F1)
   | true =>
    refine zoB ⟨B,w1,ρ,S1,rfl,R1,?_⟩;dsimp only at q
    cases hh:h ρ S1 with
    | bad=>rwa [hh] at q
    | exc c S2=>rw [hh] at q;exact fun w2 R2 F2=>q w2 R2 (F1.trans F2)
    | ok e S2 =>
     rw [hh] at q;dsimp only at q ⊢
     cases hb2:isB e with
     | none=>rw [hb2] at q;exact q.elim
     | some b2=>rw [hb2] at q;exact fun w2 R2 F2=>q w2 R2 (F1.trans F2)
def zsd(q:tTr cl E (eOr f h) σ H Q):tOr (tTr cl E f) (tTr cl E h) σ H Q:=by
 obtain ⟨B,w,ρ,S,rfl,R,q⟩:=q;refine ⟨B,w,ρ,S,rfl,R,?_⟩;unfold eOr at q
 cases hf:f ρ S with
 | bad=>rwa [hf] at q
 | exc c S1=>rwa [hf] at q
 | ok d S1 =>
  rw [hf] at q;dsimp only [Out.bind] at q ⊢
  cases hb:isB d with
  | none=>rw [hb] at q;exact q.elim
  | some b =>
   rw [hb] at q;intro w1 R1 F1
   cases b with
   | true=>exact zoB (q w1 R1 F1)
   | false =>
    refine zoC ⟨B,w1,ρ,S1,rfl,R1,?_⟩;dsimp only at q
    cases hh:h ρ S1 with
    | bad=>rwa [hh] at q
    | exc c S2=>rw [hh] at q;exact fun w2 R2 F2=>q w2 R2 (F1.trans F2)
    | ok e S2 =>
     rw [hh] at q;dsimp only at q ⊢
     cases hb2:isB e with
     | none=>rw [hb2] at q;exact q.elim
     | some b2=>rw [hb2] at q;exact fun w2 R2 F2=>q w2 R2 (F1.trans F2)
def zpX(q:tTr cl E (eUn zd1 f) σ H Q):zxH (tTr cl E f) σ H Q:=by
 obtain ⟨B,w,ρ,S,rfl,R,q⟩:=q;refine ⟨B,w,ρ,S,rfl,R,?_⟩;unfold eUn at q
 cases hf:f ρ S with
 | bad=>rwa [hf] at q
 | exc c S1=>rwa [hf] at q
 | ok d S1 =>
  rw [hf] at q;dsimp only [Out.bind] at q ⊢
  cases hb:isB d with
  | none =>
   have:zd1 d=none:=by cases d<;>simp [isB] at hb<;>rfl
   rw [this] at q;exact q.elim
  | some b =>
   rwa [zdQ hb] at q
def zsp(ha:PT X a (tTr cl E f)):PT X (.UnaryOp .Not a pos) (tTr cl E (eUn zd1 f)):=PT.imp (zs3 ha) fun _ _ _ q=>zpX q
def zsl{zcj:List Expr}(ha:PT X a (tTr cl E f))(hb:PW X (.BoolOp .And (b::zcj) pos) (tTr cl E h)):PW X (.BoolOp .And (a::b::zcj) pos) (tTr cl E (zhL f h)):=PW.imp (zs0 ha hb) fun _ _ _ q=>zpY q
def zvw{zcj:List Expr}(ha:PT X a (tTr cl E f))(hb:PW X (.BoolOp .Or (b::zcj) pos) (tTr cl E h)):PW X (.BoolOp .Or (a::b::zcj) pos) (tTr cl E (eOr f h)):=PW.imp (zvL ha hb) fun _ _ _ q=>zsd q
def zsP{zcj:List Expr}(ha:PE X a (tE cl E f))(hb:PE X (.BoolOp .And (b::zcj) pos) (tE cl E h)):PE X (.BoolOp .And (a::b::zcj) pos) (tE cl E (zhL f h)):=by
 refine PE.imp (ztg ha hb) ?_;rintro σ H Q ⟨B,w,ρ,S,rfl,R,q⟩;refine ⟨B,w,ρ,S,rfl,R,?_⟩;unfold zhL at q
 cases hf:f ρ S with
 | bad=>rwa [hf] at q
 | exc c S1=>rwa [hf] at q
 | ok d S1 =>
  rw [hf] at q;intro v w1 R1 F1 h1;dsimp only [Out.bind] at q
  cases hb:isB d with
  | none=>rw [hb] at q;exact q.elim
  | some b =>
   rw [hb] at q;rw [zdQ hb] at h1;refine ⟨b,zh0 h1,?_⟩
   cases b with
   | false=>exact zoC (q _ w1 R1 F1 (.bl false))
   | true =>
    refine zoB ⟨B,w1,ρ,S1,rfl,R1,?_⟩;dsimp only at q
    cases hh:h ρ S1 with
    | bad=>rwa [hh] at q
    | exc c S2=>rw [hh] at q;exact fun w2 R2 F2=>q w2 R2 (F1.trans F2)
    | ok e S2=>rw [hh] at q;exact fun v w2 R2 F2=>q v w2 R2 (F1.trans F2)
def zvD{zcj:List Expr}(ha:PE X a (tE cl E f))(hb:PE X (.BoolOp .Or (b::zcj) pos) (tE cl E h)):PE X (.BoolOp .Or (a::b::zcj) pos) (tE cl E (eOr f h)):=by
 refine PE.imp (zvQ ha hb) ?_;rintro σ H Q ⟨B,w,ρ,S,rfl,R,q⟩;refine ⟨B,w,ρ,S,rfl,R,?_⟩;unfold eOr at q
 cases hf:f ρ S with
 | bad=>rwa [hf] at q
 | exc c S1=>rwa [hf] at q
 | ok d S1 =>
  rw [hf] at q;intro v w1 R1 F1 h1;dsimp only [Out.bind] at q
  cases hb:isB d with
  | none=>rw [hb] at q;exact q.elim
  | some b =>
   rw [hb] at q;rw [zdQ hb] at h1;refine ⟨b,zh0 h1,?_⟩
   cases b with
   | true=>exact zoB (q _ w1 R1 F1 (.bl true))
   | false =>
    refine zoC ⟨B,w1,ρ,S1,rfl,R1,?_⟩;dsimp only at q
    cases hh:h ρ S1 with
    | bad=>rwa [hh] at q
    | exc c S2=>rw [hh] at q;exact fun w2 R2 F2=>q w2 R2 (F1.trans F2)
    | ok e S2=>rw [hh] at q;exact fun v w2 R2 F2=>q v w2 R2 (F1.trans F2)
def zsJ(ha:PE X a (tE cl E f)):PE X (.UnaryOp .Not a pos) (tE cl E (eUn zd1 f)):=by
 refine PE.imp (ztb ha) ?_;rintro σ H Q ⟨B,w,ρ,S,rfl,R,q⟩;refine ⟨B,w,ρ,S,rfl,R,?_⟩;unfold eUn at q
 cases hf:f ρ S with
 | bad=>rwa [hf] at q
 | exc c S1=>rwa [hf] at q
 | ok d S1 =>
  rw [hf] at q;intro v w1 R1 F1 h1;dsimp only [Out.bind] at q
  cases hb:isB d with
  | none =>
   have:zd1 d=none:=by cases d<;>simp [isB] at hb<;>rfl
   rw [this] at q;exact q.elim
  | some b =>
   rw [zdQ hb] at q h1;exact ⟨b,zh0 h1,q _ w1 R1 F1 (.bl _)⟩
def zvq(q:tE cl E (eIf g f h) σ H Q):tIf (tTr cl E g) (tE cl E f) (tE cl E h) σ H Q:=by
 obtain ⟨B,w,ρ,S,rfl,R,q⟩:=q;refine ⟨B,w,ρ,S,rfl,R,?_⟩;unfold eIf at q
 cases hg:g ρ S with
 | bad=>rwa [hg] at q
 | exc c S1=>rwa [hg] at q
 | ok d S1 =>
  rw [hg] at q;dsimp only [Out.bind] at q ⊢
  cases hb:isB d with
  | none=>rw [hb] at q;exact q.elim
  | some b =>
   rw [hb] at q;intro w1 R1 F1
   cases b with
   | true =>
    refine zoB ⟨B,w1,ρ,S1,rfl,R1,?_⟩;dsimp only at q
    cases hh:f ρ S1 with
    | bad=>rwa [hh] at q
    | exc c S2=>rw [hh] at q;exact fun w2 R2 F2=>q w2 R2 (F1.trans F2)
    | ok e S2=>rw [hh] at q;exact fun v w2 R2 F2=>q v w2 R2 (F1.trans F2)
   | false =>
    refine zoC ⟨B,w1,ρ,S1,rfl,R1,?_⟩;dsimp only at q
    cases hh:h ρ S1 with
    | bad=>rwa [hh] at q
    | exc c S2=>rw [hh] at q;exact fun w2 R2 F2=>q w2 R2 (F1.trans F2)
    | ok e S2=>rw [hh] at q;exact fun v w2 R2 F2=>q v w2 R2 (F1.trans F2)
def zvG(hc:PT X c (tTr cl E g))(ha:PE X a (tE cl E f))(hb:PE X b (tE cl E h)):PE X (.IfExp c a b pos) (tE cl E (eIf g f h)):=PE.imp (zoc hc ha hb) fun _ _ _ q=>zvq q
def zgu:PA X [] (tAs cl E []):=by
 refine PA.imp zd6 ?_;rintro σ H Q ⟨B,w,ρ,S,rfl,R,q⟩;exact q [] w R (Fut.refl _) .nil
def zea(ha:PE X e (tE cl E f))(hr:PA X es (tAs cl E fs))(hs:starEach (e::es) X.env=(false,eval e X.env)::starEach es X.env):PA X (e::es) (tAs cl E (f::fs)):=by
 refine PA.imp (zcr ha hr hs) ?_;rintro σ H Q ⟨B,w,ρ,S,rfl,R,q⟩;refine ⟨B,w,ρ,S,rfl,R,?_⟩;unfold zan at q
 cases hf:f ρ S with
 | bad=>rwa [hf] at q
 | exc c S1=>rwa [hf] at q
 | ok d S1 =>
  rw [hf] at q;intro v w1 R1 F1 h1;refine ⟨B,w1,ρ,S1,rfl,R1,?_⟩;dsimp only [Out.bind] at q
  cases hh:zan fs ρ S1 with
  | bad=>rwa [hh] at q
  | exc c S2=>rw [hh] at q;exact fun w2 R2 F2=>q w2 R2 (F1.trans F2)
  | ok ds S2 =>
   rw [hh] at q;exact fun vs w2 R2 F2 h2=>q _ w2 R2 (F1.trans F2) (.cons (h1.up F2) h2)
def zph:PA X [] (tHs cl E []):=by
 refine PA.imp zd6 ?_;rintro σ H Q ⟨B,w,ρ,S,rfl,R,q⟩;exact q [] w R (Fut.refl _) .nil
def zlK(ha:PE X e (tH cl E f))(hr:PA X es (tHs cl E fs))(hs:starEach (e::es) X.env=(false,eval e X.env)::starEach es X.env):PA X (e::es) (tHs cl E (f::fs)):=by
 refine PA.imp (zcr ha hr hs) ?_;rintro σ H Q ⟨B,w,ρ,S,rfl,R,q⟩;refine ⟨B,w,ρ,S,rfl,R,?_⟩;unfold zan at q
 cases hf:f ρ S with
 | bad=>rwa [hf] at q
 | exc c S1=>rwa [hf] at q
 | ok d S1 =>
  rw [hf] at q;intro v w1 R1 F1 h1;refine ⟨B,w1,ρ,S1,rfl,R1,?_⟩;dsimp only [Out.bind] at q
  cases hh:zan fs ρ S1 with
  | bad=>rwa [hh] at q
  | exc c S2=>rw [hh] at q;exact fun w2 R2 F2=>q w2 R2 (F1.trans F2)
  | ok ds S2 =>
   rw [hh] at q;exact fun vs w2 R2 F2 h2=>q _ w2 R2 (F1.trans F2) (.cons (h1.up F2) h2)
def zsH(h:PA X es (tAs cl E fs)):PE X (.Tuple es k pos) (tE cl E (zc5 fs)):=by
 refine PE.imp (zps h) ?_;rintro σ H Q ⟨B,w,ρ,S,rfl,R,q⟩;refine ⟨B,w,ρ,S,rfl,R,?_⟩;unfold zc5 at q
 cases hf:zan fs ρ S with
 | bad=>rwa [hf] at q
 | exc c S1=>rwa [hf] at q
 | ok ds S1 =>
  rw [hf] at q;intro vs w1 R1 F1 h1;dsimp only [Out.bind] at q
  cases hz:zbb ds.length with
  | false=>rw [hz,if_neg (by decide)] at q;exact q.elim
  | true =>
   rw [hz,if_pos rfl] at q;refine ⟨by rw [h1.length];exact zbn hz,fun p hp=>?_⟩;exact q _ (w1.add p (.tup vs)) (R1.grow (zaD hp _)) (F1.trans (zaD hp _).fut) (Shd.newT hp h1)
def zsL(h:PA X es (tAs cl E fs)):PE X (.List es pos) (tN cl E (ze9 fs)):=by
 refine PE.imp (zpt h) ?_;rintro σ H Q ⟨B,w,ρ,S,rfl,R,q⟩;refine ⟨B,w,ρ,S,rfl,R,?_⟩;unfold ze9 at q
 cases hf:zan fs ρ S with
 | bad=>rwa [hf] at q
 | exc c S1=>rwa [hf] at q
 | ok ds S1 =>
  rw [hf] at q;intro vs w1 R1 F1 h1;dsimp only [Out.bind] at q
  cases hz:zbb ds.length with
  | false=>rw [hz,if_neg (by decide)] at q;exact q.elim
  | true =>
   rw [hz,if_pos rfl] at q;refine ⟨by rw [h1.length];exact zbn hz,fun p hp=>?_⟩;exact q _ (.lst vs) w1 R1 F1 hp (.lst h1)
def zsi(hr:∀xs H Q,(∃w ds r,w.H=H/\znt cl w xs ds/\gg ds=some r/\∀v w',Grow w w'->Shd cl w' v r->Q v w'.H)->r xs H Q)(q:tE cl E (zaq gg fs) σ H Q):tCB r (tHs cl E fs) σ H Q:=by
 obtain ⟨B,w,ρ,S,rfl,R,q⟩:=q;refine ⟨B,w,ρ,S,rfl,R,?_⟩;unfold zaq at q
 cases hf:zan fs ρ S with
 | bad=>rwa [hf] at q
 | exc c S1=>rwa [hf] at q
 | ok ds S1 =>
  rw [hf] at q;intro vs w1 R1 F1 h1;dsimp only [Out.bind] at q
  cases hg:gg ds with
  | none=>rw [hg] at q;exact q.elim
  | some d =>
   rw [hg] at q;exact hr _ _ _ ⟨w1,ds,d,rfl,h1.top R1,hg,fun v w' gr sh=>q v w' (R1.grow gr) (F1.trans gr.fut) sh⟩
def zvu(hr:∀xs H Q,(∃w ds r,w.H=H/\znt cl w xs ds/\gg ds=some r/\∀p o w',Grow w w'->w'.H p=none->Top cl w' o r->Q (.ref p) (upd w'.H p o))->r xs H Q)(q:tN cl E (zaq gg fs) σ H Q):tCB r (tHs cl E fs) σ H Q:=by
 obtain ⟨B,w,ρ,S,rfl,R,q⟩:=q;refine ⟨B,w,ρ,S,rfl,R,?_⟩;unfold zaq at q
 cases hf:zan fs ρ S with
 | bad=>rwa [hf] at q
 | exc c S1=>rwa [hf] at q
 | ok ds S1 =>
  rw [hf] at q;intro vs w1 R1 F1 h1;dsimp only [Out.bind] at q
  cases hg:gg ds with
  | none=>rw [hg] at q;exact q.elim
  | some d =>
   rw [hg] at q;exact hr _ _ _ ⟨w1,ds,d,rfl,h1.top R1,hg,fun p o w' gr hp t=>q p o w' (R1.grow gr) (F1.trans gr.fut) hp t⟩
end
noncomputable def Root.out:Option Root->Option Root | some (.slot _)=>some .far | o=>o
def Root.out_none:Root.out o=none↔o=none:=by
 cases o with
 | none=>exact ⟨fun h=>h,fun h=>h⟩
 | some r=>cases r<;>simp [Root.out]
noncomputable def zfX:Option Root->Bool | some (.fld _ _)=>true | some (.obj _)=>true | _=>false
def Wd.inn(w:Wd):Wd:=⟨w.H,fun a=>Root.out (w.ow a),w.mu⟩
def Wd.base(w:Wd):Base:=⟨fun a=>if zfX (w.ow a)=true then none else w.H a,fun a=>Root.out (w.ow a)⟩
def Wd.back(w w':Wd):Wd:=⟨w'.H,fun a=>if (w.base.Fr a).isSome=true then w.ow a else Root.out (w'.ow a),w'.mu⟩
def zcM(w:Wd):Fut w w.inn:=⟨fun a o h k=>⟨h,by show Root.out (w.ow a)=none;rw [k];rfl⟩,fun _ _ h=>h⟩
def ziX{w:Wd}(h:w.H a=some o)(k:zfX (w.ow a)=false):w.base.Fr a=some o:=by
 show (if zfX (w.ow a)=true then none else w.H a)=_;rw [k,if_neg (by decide)];exact h
def zqO{w:Wd}(h:w.base.Fr a=some o):w.H a=some o/\zfX (w.ow a)=false:=by
 have h':(if zfX (w.ow a)=true then none else w.H a)=some o:=h;split at h'
 ·cases h'
 ·rename_i z;exact ⟨h',by simpa using z⟩
section
variable{cl:Cf}{B:Base}{σ:St}{w w':Wd}{ρ:Env}{S S':Sto}
def World'.enter(W:World' cl B w S):World' cl w.base w.inn S where
 fr:=fun a o h=>⟨(zqO h).1,rfl⟩
 own:=fun a r h=>by
  have h':Root.out (w.ow a)=some r:=h
  cases e:w.ow a with
  | none=>rw [e] at h';cases h'
  | some q =>
   cases q with
   | slot i=>rw [e] at h';cases h';exact .inl rfl
   | far=>rw [e] at h';cases h';exact .inl rfl
   | fld n f=>exact .inr (by show (if zfX (w.ow a)=true then none else w.H a)=none;rw [e];rfl)
   | obj n=>exact .inr (by show (if zfX (w.ow a)=true then none else w.H a)=none;rw [e];rfl)
 len:=W.len
 obj:=fun n ob h=>by
  obtain ⟨a,e,x⟩:=W.obj n ob h;refine ⟨a,e,x.keep (zcM w) fun a o ha hn=>⟨ha,?_⟩⟩;show Root.out (w.ow a)=w.ow a
  cases e:w.ow a with
  | none=>rfl
  | some q=>cases q with
   | slot i=>rw [e] at hn;exact hn.elim
   | _=>rfl
def zer(W:World' cl B w S)(h:B.Fr a=some o):w.base.Fr a=some o:=by
 refine ziX (W.fr a o h).1 ?_
 cases e:w.ow a with
 | none=>rfl
 | some q =>
  rcases W.own a q e with rfl | z
  ·rfl
  ·rw [h] at z;cases z
def zdR(W':World' cl w.base w' S'):Fut w' (w.back w') where
 keep:=fun a o h k=>by
  refine ⟨h,?_⟩;show (if (w.base.Fr a).isSome=true then w.ow a else Root.out (w'.ow a))=none;split
  ·rename_i z;obtain ⟨u,hu⟩:=Option.isSome_iff_exists.mp z;have:=(W'.fr a u hu).2;rw [k] at this;exact Root.out_none.mp this.symm
  ·rw [k];rfl
 mu:=fun _ _ h=>h
def Rel.leave(R:Rel cl B σ w ρ S)(W':World' cl w.base w' S')(F:Fut w.inn w'):Rel cl B σ (w.back w') ρ S'/\Fut w (w.back w'):=by
 have fb:=zdR W';have ff:Fut w (w.back w'):=(zcM w).trans (F.trans fb)
 have in_:∀a o,w.base.Fr a=some o->(w.back w').H a=some o/\(w.back w').ow a=w.ow a:=fun a o h=>by
  refine ⟨(W'.fr a o h).1,?_⟩;show (if (w.base.Fr a).isSome=true then w.ow a else _)=_;rw [h];rfl
 refine ⟨⟨⟨fun a o h=>?_,fun a r h=>?_,W'.len,fun n ob h=>?_⟩,R.len,fun i o d h=>?_⟩,ff⟩
 ·have:=in_ a o (zer R.wd h);exact ⟨this.1,this.2.trans (R.wd.fr a o h).2⟩
 ·cases hb:B.Fr a with
  | none=>exact .inr rfl
  | some o =>
   have:=(in_ a o (zer R.wd hb)).2;rw [h] at this
   rcases R.wd.own a r this.symm with z | z
   ·exact .inl z
   ·rw [hb] at z;cases z
 ·obtain ⟨a,e,x⟩:=W'.obj n ob h;refine ⟨a,e,x.keep fb fun a o ha hn=>⟨ha,?_⟩⟩;show (if (w.base.Fr a).isSome=true then w.ow a else Root.out (w'.ow a))=_
  cases e:w'.ow a with
  | none=>rw [e] at hn;exact hn.elim
  | some q =>
   rcases W'.own a q e with rfl | z
   ·rw [e] at hn;exact hn.elim
   ·rw [z]
    cases q with
    | slot i=>rw [e] at hn;exact hn.elim
    | _=>rfl
 ·obtain ⟨v,e,x⟩:=R.slots i o d h;refine ⟨v,e,x.keep ff fun a u ha hr=>?_⟩;have:=in_ a u (ziX ha (by rw [hr];rfl));exact ⟨this.1,this.2.trans hr⟩
noncomputable def Wd.del(w:Wd)(a:Addr):Wd:=⟨fun b=>if b=a then none else w.H b,w.ow,w.mu⟩
def zjk(k:w.ow a≠none):Fut w (w.del a) where
 keep:=fun b o h e=>⟨by
  show (if b=a then none else w.H b)=_
  rw [if_neg (fun z=>k (by rw [<-z];exact e))];exact h,e⟩
 mu:=fun _ _ h=>h
def zlp(h:w.H a=some o):upd (w.del a).H a o=w.H:=by
 funext b
 by_cases e:b=a
 ·rw [e,zaM,h]
 ·rw [zau e];show (if b=a then none else w.H b)=_;rw [if_neg e]
theorem Rel.del(R:Rel cl B σ w ρ S)(k:w.ow a=some .far)(hb:B.Fr a=none):Rel cl B σ (w.del a) ρ S:=by
 have fd:Fut w (w.del a):=zjk (by rw [k];exact yaU _)
 have kp:∀b o,w.H b=some o->b≠a->(w.del a).H b=some o:=fun b o h n=>by
  show (if b=a then none else w.H b)=_;rw [if_neg n];exact h
 refine ⟨⟨fun b o h=>⟨kp b o (R.wd.fr b o h).1 (fun z=>by rw [z,hb] at h;cases h),(R.wd.fr b o h).2⟩,R.wd.own,R.wd.len,fun n ob h=>?_⟩,R.len,fun i o d h=>?_⟩
 ·obtain ⟨c,e,x⟩:=R.wd.obj n ob h;exact ⟨c,e,x.keep fd fun b o hb' hn=>⟨kp b o hb' (fun z=>by rw [z,k] at hn;exact hn.elim),rfl⟩⟩
 ·obtain ⟨v,e,x⟩:=R.slots i o d h;exact ⟨v,e,x.keep fd fun b o hb' hr=>⟨kp b o hb' (fun z=>by rw [z,k] at hr;cases hr),hr⟩⟩
end
noncomputable def zyS(cl:Cf)(w:Wd):Bool->V->D->Prop
 | false,v,d=>Shd cl w v d
 | true,v,d=>∃a o i,v=.ref a/\w.ow a=some (.slot i)/\w.H a=some o/\Top cl w o d
noncomputable def zhX(cl:Cf)(n:Nat)(own:Bool)(G:List D->Sto->Out D):Sp:=fun vs H Q E=>vs.length=n/\∃B w ds S,w.H=H/\World' cl B w S/\Shds cl w vs ds/\match G ds S with
 | .ok d S'=>∀v w',World' cl B w' S'->Fut w w'->zyS cl w' own v d->Q v w'.H
 | .exc c S'=>∀w',World' cl B w' S'->Fut w w'->E (.ref (cl c)) none w'.H
 | .bad=>False
noncomputable def zdK(CX:CXT)(X:Cx)(E:St->XK):Prop:=∀(pins:Z3) (σ:St) (H:Hp) (s:Shared) (e:Value) (s':Shared),Inv X pins σ H s->CX X.stack H s (E σ) e s'->X.xe e s'
noncomputable def zhU(sp:Sp)(dvs:List V)(E:St->XK)(t:TA):TE:=fun σ H Q=>t σ H fun vs H1=>sp (vs++dvs) H1 Q (E σ)
section
variable{X:Cx}{CX:CXT}{k:Nat}{f C:Addr}{fd:FuncData}{ps:List Str}{sp:Sp}{dvs:List V}{ds:List Value}{E:St->XK}{x m:Str}{p pos apos:Pos}{e o:Expr}{es:List Expr}{ta:TE}{t:TA}
def zg8(F:FnOk X.prog X.w X.K X.mg X.base CX k f fd ps sp)(hr:Room k X.A)(hb:zcA X.K fd ps ds)(hd:Vals dvs ds)(hx:zdK CX X E)
  (I:Inv X pins σ H s) (r:Vals vs us) (h:sp (vs++dvs) H Q (E σ)):wpAny (model X.prog X.w) X.A (call (.ref f) us) (EP X pins σ Q) X.xe s:=by
 have r2:Vals (vs++dvs) (us++ds):=r.append hd
 have hl:(us++ds).length=ps.length:=by rw [<-r2.length];exact F.len _ _ _ _ h
 refine wpAny_call (ycv (F.run X.A X.stack s H ⟨us,[]⟩ (us++ds) (vs++dvs) Q (E σ) hr I.env0 (hb s us I.kIn hl) r2 h) fun r s' hq=>?_)
 cases r with
 | error e=>exact hx pins σ H s e s' I hq
 | ok fl =>
  cases fl with
  | ret u=>exact I.after hq
  | next=>exact False.elim hq
  | brk=>exact False.elim hq
  | cont=>exact False.elim hq
def zoh(F:FnOk X.prog X.w X.K X.mg X.base CX k f fd ps sp)(hr:Room k X.A)(hg:Gl X x)(hm:X.mg x=some (.ref f))(hk:PySem.W.keepIn X.K (.ref f)=true)(hb:zcA X.K fd ps ds)(hd:Vals dvs ds)(hx:zdK CX X E)
  (ha:PA X (e::es) t) (hdb:(x == ("__debug__":Str))=false) (he:starEach (e::es) X.env=(false,eval e X.env)::starEach es X.env) (hpl:(backTo pos (starEach es X.env)).any (·.1)=false) :
  PE X (.Call (.Name x p) (e::es) [] pos) (zhU sp dvs E t):=by
 intro pins s σ H Q I h;refine ybS (zfS I hg hm ?_ hdb);refine ycY (h₀:=X.base) I.ok.mod.kin hk (thn (ha pos pins s σ H _ I h) fun us s1 ⟨vs,H1,I1,r,q⟩=>⟨I1.kIn,?_⟩) he hpl;exact zg8 F hr hb hd hx I1 r q
def zmb(F:FnOk X.prog X.w X.K X.mg X.base CX k f fd ps sp)(hr:Room k X.A)(hg:Gl X x)(hm:X.mg x=some (.ref f))(hk:PySem.W.keepIn X.K (.ref f)=true)(hb:zcA X.K fd ps ds)(hd:Vals dvs ds)(hx:zdK CX X E)
  (hdb:(x == ("__debug__":Str))=false):PE X (.Call (.Name x p) [] [] pos) (zhU sp dvs E zvn):=by
 intro pins s σ H Q I h;refine ybS (zfS I hg hm ?_ hdb);exact PySem.W.callWith_K0 I.kIn hk (zg8 (us:=[]) F hr hb hd hx I .nil h)
end
def eFn(G:List D->Sto->Out D)(fs:List Fe):Fe:=fun ρ S=>(zan fs ρ S).bind fun ds S1=>G ds S1
section
variable{cl:Cf}{E:St->XK}{fs:List Fe}{G:List D->Sto->Out D}{σ:St}{H:Hp}{Q:VK}{n:Nat}
def zuy(q:tE cl E (eFn G fs) σ H Q)(hn:fs.length=n):zhU (zhX cl n false G) [] E (tAs cl E fs) σ H Q:=by
 obtain ⟨B,w,ρ,S,rfl,R,q⟩:=q;refine ⟨B,w,ρ,S,rfl,R,?_⟩;unfold eFn at q
 cases hf:zan fs ρ S with
 | bad=>rwa [hf] at q
 | exc c S1=>rwa [hf] at q
 | ok ds S1 =>
  rw [hf] at q;intro vs w1 R1 F1 h1;dsimp only [Out.bind] at q
  have hl:∀(fs:List Fe) (S S1:Sto) (ds:List D),zan fs ρ S=.ok ds S1->ds.length=fs.length:=by
   intro fs
   induction fs with
   | nil=>intro S S1 ds h;cases h;rfl
   | cons f fs ih =>
    intro S S1 ds h;unfold zan at h
    cases h1:f ρ S with
    | bad=>rw [h1] at h;cases h
    | exc c S2=>rw [h1] at h;cases h
    | ok d S2 =>
     rw [h1] at h;dsimp only [Out.bind] at h
     cases h2:zan fs ρ S2 with
     | bad=>rw [h2] at h;cases h
     | exc c S3=>rw [h2] at h;cases h
     | ok es S3=>rw [h2] at h;cases h;rw [yai,yai,ih S2 _ es h2]
  refine ⟨by rw [yaX,h1.length,hl fs S S1 ds hf];exact hn,w1.base,w1.inn,ds,S1,rfl,R1.wd.enter,by rw [yaX];exact h1.up (zcM w1),?_⟩
  cases hg:G ds S1 with
  | bad=>rwa [hg] at q
  | exc c S2 =>
   rw [hg] at q;intro w2 W2 F2;obtain ⟨R3,F3⟩:=R1.leave W2 F2;exact q (w1.back w2) R3 (F1.trans F3)
  | ok d S2 =>
   rw [hg] at q;intro v w2 W2 F2 r2;obtain ⟨R3,F3⟩:=R1.leave W2 F2;exact q v (w1.back w2) R3 (F1.trans F3) (Shd.up (zdR W2) r2)
def zux(q:tN cl E (eFn G fs) σ H Q)(hn:fs.length=n):zhU (zhX cl n true G) [] E (tAs cl E fs) σ H Q:=by
 obtain ⟨B,w,ρ,S,rfl,R,q⟩:=q;refine ⟨B,w,ρ,S,rfl,R,?_⟩;unfold eFn at q
 cases hf:zan fs ρ S with
 | bad=>rwa [hf] at q
 | exc c S1=>rwa [hf] at q
 | ok ds S1 =>
  rw [hf] at q;intro vs w1 R1 F1 h1;dsimp only [Out.bind] at q
  have hl:∀(fs:List Fe) (S S1:Sto) (ds:List D),zan fs ρ S=.ok ds S1->ds.length=fs.length:=by
   intro fs
   induction fs with
   | nil=>intro S S1 ds h;cases h;rfl
   | cons f fs ih =>
    intro S S1 ds h;unfold zan at h
    cases h1:f ρ S with
    | bad=>rw [h1] at h;cases h
    | exc c S2=>rw [h1] at h;cases h
    | ok d S2 =>
     rw [h1] at h;dsimp only [Out.bind] at h
     cases h2:zan fs ρ S2 with
     | bad=>rw [h2] at h;cases h
     | exc c S3=>rw [h2] at h;cases h
     | ok es S3=>rw [h2] at h;cases h;rw [yai,yai,ih S2 _ es h2]
  refine ⟨by rw [yaX,h1.length,hl fs S S1 ds hf];exact hn,w1.base,w1.inn,ds,S1,rfl,R1.wd.enter,by rw [yaX];exact h1.up (zcM w1),?_⟩
  cases hg:G ds S1 with
  | bad=>rwa [hg] at q
  | exc c S2 =>
   rw [hg] at q;intro w2 W2 F2;obtain ⟨R3,F3⟩:=R1.leave W2 F2;exact q (w1.back w2) R3 (F1.trans F3)
  | ok d S2 =>
   rw [hg] at q;intro v w2 W2 F2 r2;obtain ⟨R3,F3⟩:=R1.leave W2 F2;obtain ⟨a,o,i,rfl,k1,k2,t⟩:=r2;have hfr:w1.base.Fr a=none:=(W2.own a _ k1).elim (fun z=>by cases z) fun z=>z
   have k3:(w1.back w2).ow a=some .far:=by
    show (if (w1.base.Fr a).isSome=true then w1.ow a else Root.out (w2.ow a))=_;rw [hfr,k1];rfl
   have hb:B.Fr a=none:=by
    cases z:B.Fr a with
    | none=>rfl
    | some u=>rw [zer R1.wd z] at hfr;cases hfr
   have hd:=zjk (w:=w1.back w2) (a:=a) (by rw [k3];exact yaU _);have:=q a o ((w1.back w2).del a) (R3.del k3 hb) (F1.trans (F3.trans hd)) (if_pos rfl) ((t.up (zdR W2)).up hd);rwa [zlp (w:=w1.back w2) k2] at this
end
noncomputable def frz1(ρ:Env)(i:Nat):Env:=match ρ[i]? with | some (some (true,d))=>ρ.set i (some (false,d)) | _=>ρ
def frz(is:List Nat)(ρ:Env):Env:=is.foldl frz1 ρ
def sFz(is:List Nat)(f:Fs):Fs:=fun ρ S=>f (frz is ρ) S
noncomputable def sNx:Fs:=fun ρ S=>.nx ρ S
noncomputable def sBk:Fs:=fun ρ S=>.bk ρ S
noncomputable def zaf(f g:Fs):Fs:=fun ρ S=>match f ρ S with | .nx ρ' S'=>g ρ' S' | o=>o
noncomputable def zbg(i:Nat)(own:Bool)(f:Fe):Fs:=fun ρ S=>match f ρ S with | .ok d S'=>.nx (ρ.set i (some (own,d))) S' | .exc c S'=>.ex c ρ S' | .bad=>.bad
noncomputable def znS(f:Fe):Fs:=fun ρ S=>match f ρ S with | .ok _ S'=>.nx ρ S' | .exc c S'=>.ex c ρ S' | .bad=>.bad
noncomputable def zaS(f:Fe):Fs:=fun ρ S=>match f ρ S with | .ok d S'=>.rt d S' | .exc c S'=>.ex c ρ S' | .bad=>.bad
noncomputable def znR:Fs:=fun _ S=>.rt .non S
noncomputable def zgm(i:Nat):Fs:=fun ρ S=>match ρ[i]? with | some (some (true,d))=>.rt d S | _=>.bad
def sIf(c:Fe)(f g:Fs):Fs:=fun ρ S=>match c ρ S with | .ok d S'=>(match isB d with | some true=>f ρ S' | some false=>g ρ S' | none=>.bad) | .exc x S'=>.ex x ρ S' | .bad=>.bad
noncomputable def zhH(cl:Cf)(E:St->XK)(own:Bool)(B:Base)(w:Wd)(De:Ends):Fo->Prop
 | .nx ρ' S'=>∀σ' w',Rel cl B σ' w' ρ' S'->Fut w w'->De.nx σ' w'.H
 | .bk ρ' S'=>∀σ' w',Rel cl B σ' w' ρ' S'->Fut w w'->De.bk σ' w'.H
 | .ct ρ' S'=>∀σ' w',Rel cl B σ' w' ρ' S'->Fut w w'->De.ct σ' w'.H
 | .rt d S'=>∀v w',World' cl B w' S'->Fut w w'->zyS cl w' own v d->De.rt v w'.H
 | .ex c ρ' S'=>∀σ' w',Rel cl B σ' w' ρ' S'->Fut w w'->E σ' (.ref (cl c)) none w'.H
 | .bad=>False
theorem zhH.up(f:Fut w w1):∀{o:Fo},zhH cl E own B w De o->zhH cl E own B w1 De o
 | .nx _ _,h=>fun σ' w' R F=>h σ' w' R (f.trans F)
 | .bk _ _,h=>fun σ' w' R F=>h σ' w' R (f.trans F)
 | .ct _ _,h=>fun σ' w' R F=>h σ' w' R (f.trans F)
 | .rt _ _,h=>fun v w' R F=>h v w' R (f.trans F)
 | .ex _ _ _,h=>fun σ' w' R F=>h σ' w' R (f.trans F)
 | .bad,h=>h
noncomputable def tS(cl:Cf)(E:St->XK)(own:Bool)(f:Fs):TS:=fun De σ H=>∃B w ρ S,w.H=H/\Rel cl B σ w ρ S/\zhH cl E own B w De (f ρ S)
def PS.imp{X:Cx}{st:Stmt}{t t':TS}(h:PS X st t)(i:∀De σ H,t' De σ H->t De σ H):PS X st t':=fun pins s σ H De I q=>h pins s σ H De I (i _ _ _ q)
def PSs.imp{X:Cx}{st:List Stmt}{t t':TS}(h:PSs X st t)(i:∀De σ H,t' De σ H->t De σ H):PSs X st t':=fun pins s σ H De I q=>h pins s σ H De I (i _ _ _ q)
section
variable{cl:Cf}{B:Base}{σ:St}{w:Wd}{ρ:Env}{S:Sto}
def Rel.put(R:Rel cl B σ w ρ S)(h:Shd cl w v d):Rel cl B (σ.set i (some v)) w (ρ.set i (some (false,d))) S where
 wd:=R.wd
 len:=by rw [yaR,yaR];exact R.len
 slots:=fun j o e hj=>by
  by_cases hij:i=j
  ·subst hij
   have hlt:i<ρ.length:=by
    have:=(yan.mp hj).1;rwa [yaR] at this
   rw [yaG hlt] at hj;cases hj;exact ⟨v,by rw [yaG (by rw [R.len];exact hlt)],h⟩
  ·rw [yaQ hij] at hj ⊢;exact R.slots j o e hj
def Wd.addAs(w:Wd)(p:Addr)(o:HO)(r:Root):Wd:=⟨upd w.H p o,fun a=>if a=p then some r else if w.ow a=some r then some .far else w.ow a,w.mu⟩
def zdC(h:w.H p=none):Fut w (w.addAs p o r) where
 keep:=fun a u ha hk=>by
  have n:a≠p:=zaF ha h;refine ⟨?_,?_⟩
  ·show upd w.H p o a=_;rw [zau n];exact ha
  ·show (if a=p then some r else if w.ow a=some r then some Root.far else w.ow a)=none;rw [if_neg n,if_neg (by rw [hk];exact fun z=>by cases z)];exact hk
 mu:=fun _ _ h=>h
theorem Rel.own(R:Rel cl B σ w ρ S)(hp:w.H p=none)(t:Top cl w o d):Rel cl B (σ.set i (some (.ref p))) (w.addAs p o (.slot i)) (ρ.set i (some (true,d))) S:=by
 have ff:=zdC (w:=w) (p:=p) (o:=o) (r:=.slot i) hp
 have kp:∀a u,w.H a=some u->w.ow a≠some (.slot i)->(w.addAs p o (.slot i)).H a=some u/\(w.addAs p o (.slot i)).ow a=w.ow a:=fun a u ha hk=>by
  have n:a≠p:=zaF ha hp;refine ⟨?_,?_⟩
  ·show upd w.H p o a=_;rw [zau n];exact ha
  ·show (if a=p then _ else if w.ow a=some (Root.slot i) then some Root.far else w.ow a)=_;rw [if_neg n,if_neg hk]
 have hBp:B.Fr p=none:=by
  cases z:B.Fr p with
  | none=>rfl
  | some u=>have:=(R.wd.fr p u z).1;rw [hp] at this;cases this
 refine ⟨⟨fun a u h=>?_,fun a r h=>?_,R.wd.len,fun n ob h=>?_⟩,by rw [yaR,yaR];exact R.len,fun j b e hj=>?_⟩
 ·have hne:w.ow a≠some (.slot i):=fun z=>by
   rcases R.wd.own a _ z with y | y
   ·cases y
   ·rw [h] at y;cases y
  have:=kp a u (R.wd.fr a u h).1 hne;exact ⟨this.1,this.2.trans (R.wd.fr a u h).2⟩
 ·have h':(if a=p then some (Root.slot i) else if w.ow a=some (Root.slot i) then some Root.far else w.ow a)=some r:=h;split at h'
  ·rename_i e;rw [e];exact .inr hBp
  ·split at h'
   ·cases h';exact .inl rfl
   ·exact R.wd.own a r h'
 ·obtain ⟨a,e,x⟩:=R.wd.obj n ob h;exact ⟨a,e,x.keep ff fun b u hb hn=>kp b u hb fun z=>by rwa [z] at hn⟩
 ·by_cases hij:i=j
  ·subst hij
   have hlt:i<ρ.length:=by
    have:=(yan.mp hj).1;rwa [yaR] at this
   rw [yaG hlt] at hj;cases hj;exact ⟨.ref p,by rw [yaG (by rw [R.len];exact hlt)],p,o,rfl,if_pos rfl,zaM,t.up ff⟩
  ·rw [yaQ hij] at hj ⊢;obtain ⟨v,e1,x⟩:=R.slots j b e hj;refine ⟨v,e1,x.keep ff fun a u ha hr=>?_⟩;have:=kp a u ha (by rw [hr];exact fun z=>hij (by cases z;rfl));exact ⟨this.1,this.2.trans hr⟩
def Wd.mut(w:Wd)(p:Addr)(o:HO):Wd:=⟨upd w.H p o,w.ow,w.mu⟩
def zei(h:w.ow p≠none):Fut w (w.mut p o) where
 keep:=fun a u ha hk=>⟨by
  show upd w.H p o a=_
  rw [zau (fun z=>h (by rw [<-z];exact hk))];exact ha,hk⟩
 mu:=fun _ _ h=>h
theorem Rel.mut{i:Nat}{p:Addr}{o:HO}{d d0:D}(R:Rel cl B σ w ρ S)(hs:σ[i]?=some (some (.ref p)))(hk:w.ow p=some (.slot i))(t:Top cl w o d):Rel cl B σ (w.mut p o) (ρ.set i (some (true,d))) S:=by
 have ff:=zei (w:=w) (p:=p) (o:=o) (by rw [hk];exact yaU _)
 have kp:∀a u,w.H a=some u->w.ow a≠some (.slot i)->(w.mut p o).H a=some u/\(w.mut p o).ow a=w.ow a:=fun a u ha hn=>⟨by
  show upd w.H p o a=_
  rw [zau (fun z=>hn (by rw [z];exact hk))];exact ha,rfl⟩
 have hBp:B.Fr p=none:=(R.wd.own p _ hk).elim (fun z=>by cases z) fun z=>z
 refine ⟨⟨fun a u h=>?_,R.wd.own,R.wd.len,fun n ob h=>?_⟩,by rw [yaR];exact R.len,fun j b e hj=>?_⟩
 ·have hne:w.ow a≠some (.slot i):=fun z=>by
   rcases R.wd.own a _ z with y | y
   ·cases y
   ·rw [h] at y;cases y
  have:=kp a u (R.wd.fr a u h).1 hne;exact ⟨this.1,(R.wd.fr a u h).2⟩
 ·obtain ⟨a,e,x⟩:=R.wd.obj n ob h;exact ⟨a,e,x.keep ff fun b u hb hn=>kp b u hb fun z=>by rwa [z] at hn⟩
 ·by_cases hij:i=j
  ·subst hij
   have hlt:i<ρ.length:=by
    have:=(yan.mp hj).1;rwa [yaR] at this
   rw [yaG hlt] at hj;cases hj;exact ⟨.ref p,hs,p,o,rfl,hk,zaM,t.up ff⟩
  ·rw [yaQ hij] at hj;obtain ⟨v,e1,x⟩:=R.slots j b e hj;refine ⟨v,e1,x.keep ff fun a u ha hr=>?_⟩;have:=kp a u ha (by rw [hr];exact fun z=>hij (by cases z;rfl));exact ⟨this.1,this.2.trans hr⟩
noncomputable def Wd.free(w:Wd)(r:Root):Wd:=⟨w.H,fun a=>if w.ow a=some r then none else w.ow a,w.mu⟩
def zoJ:Fut w (w.free r) where
 keep:=fun a u ha hk=>⟨ha,by
  show (if w.ow a=some r then none else w.ow a)=none
  rw [hk];rfl⟩
 mu:=fun _ _ h=>h
theorem Top.shd(h:w.H a=some o)(k:w.ow a=none):Top cl w o d->Shd cl w (.ref a) d
 | .lst t=>.lst h k t
 | .dicK t=>.dicK h k t
 | .dicX x=>.dicX h k x
theorem Rel.frz1(R:Rel cl B σ w ρ S)(i:Nat):∃w',w'.H=w.H/\Fut w w'/\Rel cl B σ w' (frz1 ρ i) S:=by
 unfold S2.frz1;split
 ·rename_i d hd;have ff:=zoJ (w:=w) (r:=.slot i);have kp:∀a u,w.H a=some u->w.ow a≠some (.slot i)->(w.free (.slot i)).H a=some u/\(w.free (.slot i)).ow a=w.ow a:=fun a u ha hn=>⟨ha,if_neg hn⟩
  refine ⟨w.free (.slot i),rfl,ff,⟨fun a u h=>?_,fun a r h=>?_,R.wd.len,fun n ob h=>?_⟩,by rw [yaR];exact R.len,fun j b e hj=>?_⟩
  ·have hne:w.ow a≠some (.slot i):=fun z=>by
    rcases R.wd.own a _ z with y | y
    ·cases y
    ·rw [h] at y;cases y
   have:=kp a u (R.wd.fr a u h).1 hne;exact ⟨this.1,this.2.trans (R.wd.fr a u h).2⟩
  ·have h':(if w.ow a=some (Root.slot i) then none else w.ow a)=some r:=h;split at h'
   ·cases h'
   ·exact R.wd.own a r h'
  ·obtain ⟨a,e,x⟩:=R.wd.obj n ob h;exact ⟨a,e,x.keep ff fun b u hb hn=>kp b u hb fun z=>by rwa [z] at hn⟩
  ·by_cases hij:i=j
   ·subst hij;have hlt:i<ρ.length:=(yan.mp hd).1;rw [yaG hlt] at hj;cases hj;obtain ⟨v,e1,a,o,rfl,h1,h2,t⟩:=R.slots i true d hd;refine ⟨.ref a,e1,(t.up ff).shd h2 ?_⟩;show (if w.ow a=some (Root.slot i) then none else w.ow a)=none;rw [if_pos h1]
   ·rw [yaQ hij] at hj;obtain ⟨v,e1,x⟩:=R.slots j b e hj;refine ⟨v,e1,x.keep ff fun a u ha hr=>?_⟩;have:=kp a u ha (by rw [hr];exact fun z=>hij (by cases z;rfl));exact ⟨this.1,this.2.trans hr⟩
 ·exact ⟨w,rfl,Fut.refl _,R⟩
theorem Rel.frz:∀(is:List Nat) {w:Wd} {ρ:Env},Rel cl B σ w ρ S->∃w',w'.H=w.H/\Fut w w'/\Rel cl B σ w' (frz is ρ) S
 | [],w,ρ,R=>⟨w,rfl,Fut.refl _,R⟩
 | i::is,w,ρ,R=>by
  obtain ⟨w1,e1,f1,R1⟩:=R.frz1 i;obtain ⟨w2,e2,f2,R2⟩:=Rel.frz is R1;exact ⟨w2,e2.trans e1,f1.trans f2,R2⟩
end
section
variable{X:Cx}{cl:Cf}{E:St->XK}{own:Bool}{st:Stmt}{zcj:List Stmt}{f g:Fs}{e:Expr}{fe:Fe}{pos pos':Pos}
def zvz(is:List Nat)(h:PS X st (tS cl E own f)):PS X st (tS cl E own (sFz is f)):=by
 refine PS.imp h ?_;rintro De σ H ⟨B,w,ρ,S,rfl,R,q⟩;obtain ⟨w',e',f',R'⟩:=R.frz is;exact ⟨B,w',frz is ρ,S,e',R',zhH.up f' q⟩
def zst:PSs X [] (tS cl E own sNx):=by
 refine PSs.imp zqv ?_;rintro De σ H ⟨B,w,ρ,S,rfl,R,q⟩;exact q σ w R (Fut.refl _)
def zqb(h1:PS X st (tS cl E own f))(h2:PSs X zcj (tS cl E own g)):PSs X (st::zcj) (tS cl E own (zaf f g)):=by
 refine PSs.imp (zn2 h1 h2) ?_;rintro De σ H ⟨B,w,ρ,S,rfl,R,q⟩;refine ⟨B,w,ρ,S,rfl,R,?_⟩;unfold zaf at q
 cases hf:f ρ S with
 | nx ρ' S' =>
  rw [hf] at q;intro σ' w' R' F';exact ⟨B,w',ρ',S',rfl,R',zhH.up F' q⟩
 | bk ρ' S'=>rwa [hf] at q
 | ct ρ' S'=>rwa [hf] at q
 | rt d S'=>rwa [hf] at q
 | ex c ρ' S'=>rwa [hf] at q
 | bad=>rwa [hf] at q
def zp8:PS X (.Pass pos) (tS cl E own sNx):=by
 refine PS.imp zqx ?_;rintro De σ H ⟨B,w,ρ,S,rfl,R,q⟩;exact q σ w R (Fut.refl _)
def zsv:PS X (.Break pos) (tS cl E own sBk):=by
 refine PS.imp zn5 ?_;rintro De σ H ⟨B,w,ρ,S,rfl,R,q⟩;exact q σ w R (Fut.refl _)
def zwN(q:tS cl E own (zbg i false fe) De σ H):zrY (tE cl E fe) (zmR i) De σ H:=by
 obtain ⟨B,w,ρ,S,rfl,R,q⟩:=q;refine ⟨B,w,ρ,S,rfl,R,?_⟩;unfold zbg at q
 cases hf:fe ρ S with
 | bad=>rwa [hf] at q
 | exc c S1=>rw [hf] at q;exact fun w' R' F'=>q σ w' R' F'
 | ok d S1 =>
  rw [hf] at q;intro v w' R' F' h';exact q _ w' (R'.put h') F'
def zuE(q:tS cl E own (zbg i true fe) De σ H):zrY (tN cl E fe) (zmR i) De σ H:=by
 obtain ⟨B,w,ρ,S,rfl,R,q⟩:=q;refine ⟨B,w,ρ,S,rfl,R,?_⟩;unfold zbg at q
 cases hf:fe ρ S with
 | bad=>rwa [hf] at q
 | exc c S1=>rw [hf] at q;exact fun w' R' F'=>q σ w' R' F'
 | ok d S1 =>
  rw [hf] at q;intro p o w' R' F' hp t;exact q _ (w'.addAs p o (.slot i)) (R'.own hp t) (F'.trans (zdC hp))
def zsx(hN:X.N.Nodup)(hi:X.N[i]?=some x)(hx:Loc X.env.scope x)(he:PE X e (tE cl E fe))(hs:swapsWith e (some (.Name x pos')) pos.line X.env=pure false)(hf:X.fn x=true\/X.env.scope.names.lookup x=some .local):PS X (.Assign [.Name x pos'] e pos) (tS cl E own (zbg i false fe)) :=
 PS.imp (zpn hN hi hx he hs hf) fun _ _ _ q=>zwN q
def zlH(hN:X.N.Nodup)(hi:X.N[i]?=some x)(hx:Loc X.env.scope x)(he:PE X e (tN cl E fe))(hs:swapsWith e (some (.Name x pos')) pos.line X.env=pure false)(hf:X.fn x=true\/X.env.scope.names.lookup x=some .local):PS X (.Assign [.Name x pos'] e pos) (tS cl E own (zbg i true fe)) :=
 PS.imp (zpn hN hi hx he hs hf) fun _ _ _ q=>zuE q
def zpe(he:PE X e (tE cl E fe))(hs:swapsWith e none pos.line X.env=pure false):PS X (.Expr e pos) (tS cl E own (znS fe)):=by
 refine PS.imp (zjc he hs) ?_;rintro De σ H ⟨B,w,ρ,S,rfl,R,q⟩;refine ⟨B,w,ρ,S,rfl,R,?_⟩;unfold znS at q
 cases hf:fe ρ S with
 | bad=>rwa [hf] at q
 | exc c S1=>rw [hf] at q;exact fun w' R' F'=>q σ w' R' F'
 | ok d S1=>rw [hf] at q;exact fun v w' R' F' _=>q σ w' R' F'
def zss(he:PE X e (tE cl E fe)):PS X (.Return (some e) pos) (tS cl E false (zaS fe)):=by
 refine PS.imp (zl3 he) ?_;rintro De σ H ⟨B,w,ρ,S,rfl,R,q⟩;refine ⟨B,w,ρ,S,rfl,R,?_⟩;unfold zaS at q
 cases hf:fe ρ S with
 | bad=>rwa [hf] at q
 | exc c S1=>rw [hf] at q;exact fun w' R' F'=>q σ w' R' F'
 | ok d S1=>rw [hf] at q;exact fun v w' R' F' h'=>q v w' R'.wd F' h'
def zp4(he:PE X e (tN cl E fe)):PS X (.Return (some e) pos) (tS cl E true (zaS fe)):=by
 refine PS.imp (zl3 he) ?_;rintro De σ H ⟨B,w,ρ,S,rfl,R,q⟩;refine ⟨B,w,ρ,S,rfl,R,?_⟩;unfold zaS at q
 cases hf:fe ρ S with
 | bad=>rwa [hf] at q
 | exc c S1=>rw [hf] at q;exact fun w' R' F'=>q σ w' R' F'
 | ok d S1 =>
  rw [hf] at q;intro p o w' R' F' hp t;have ff:=zdC (w:=w') (p:=p) (o:=o) (r:=.slot 0) hp;exact q (.ref p) (w'.addAs p o (.slot 0)) (Rel.own (i:=0) R' hp t).wd (F'.trans ff) ⟨p,o,0,rfl,if_pos rfl,zaM,t.up ff⟩
def zp3(hN:X.N[i]?=some x)(hv:Vis X.env.scope x)(hd:(x == ("__debug__":Str))=false)(hcd:(x == ("__classdict__":Str))=false):PS X (.Return (some (.Name x pos')) pos) (tS cl E true (zgm i)):=by
 refine PS.imp (zl3 (zdn hN hv hd hcd)) ?_;rintro De σ H ⟨B,w,ρ,S,rfl,R,q⟩;unfold zgm at q;split at q
 ·rename_i d hd;obtain ⟨v,e1,a,o,rfl,h1,h2,t⟩:=R.slots i true d hd;exact ⟨_,e1,q _ w R.wd (Fut.refl _) ⟨a,o,i,rfl,h1,h2,t⟩⟩
 ·exact q.elim
def zp5:PS X (.Return none pos) (tS cl E false znR):=by
 refine PS.imp zqw ?_;rintro De σ H ⟨B,w,ρ,S,rfl,R,q⟩;exact q .non w R.wd (Fut.refl _) .non
def zvy(hc:PT X c (tTr cl E fc))(ha:PSs X a (tS cl E own f))(hb:PSs X b (tS cl E own g)):PS X (.If c a b pos) (tS cl E own (sIf fc f g)):=by
 refine PS.imp (zvO hc ha hb) ?_;rintro De σ H ⟨B,w,ρ,S,rfl,R,q⟩;refine ⟨B,w,ρ,S,rfl,R,?_⟩;unfold sIf at q
 cases hg:fc ρ S with
 | bad=>rwa [hg] at q
 | exc c S1=>rw [hg] at q;exact fun w' R' F'=>q σ w' R' F'
 | ok d S1 =>
  rw [hg] at q;dsimp only at q ⊢
  cases hb:isB d with
  | none=>rw [hb] at q;exact q.elim
  | some b =>
   rw [hb] at q;intro w1 R1 F1
   cases b with
   | true=>exact zoB ⟨B,w1,ρ,S1,rfl,R1,zhH.up F1 q⟩
   | false=>exact zoC ⟨B,w1,ρ,S1,rfl,R1,zhH.up F1 q⟩
end
def zh3(i:Nat)(fe:Fe):Fs:=fun ρ S=>match ρ[i]? with
 | some (some (true,.lst l))=>(match fe ρ S with
  | .ok d S'=>if zbb l.length then .nx (ρ.set i (some (true,.lst (l++[d])))) S' else .bad
  | .exc c S'=>.ex c ρ S' | .bad=>.bad)
 | _=>.bad
section
variable{X:Cx}{cl:Cf}{E:St->XK}{own:Bool}{e:Expr}{fe:Fe}{pos pos':Pos}
def zjK(h:zbb n=true):n<sizeLine:=ycZ (yar h) (by decide)
def Rel.list(R:Rel cl B σ w ρ S)(h:ρ[i]?=some (some (true,.lst l))):∃a xs,σ[i]?=some (some (.ref a))/\w.ow a=some (.slot i)/\w.H a=some (.lst xs)/\Shds cl w xs l:=by
 obtain ⟨v,e1,a,o,rfl,h1,h2,t⟩:=R.slots i true _ h
 cases t with
 | lst t=>exact ⟨a,_,e1,h1,h2,t⟩
def zsy(hN:X.N[i]?=some x)(hv:Vis X.env.scope x)(hd:(x == ("__debug__":Str))=false)(hcd:(x == ("__classdict__":Str))=false)(he:PE X e (tE cl E fe))
  (hpl:zcE e=true) (hln:(ap.endLine == cp.line)=true):PS X (.Expr (.Call (.Attribute (.Name x pos') "append" ap) [e] [] cp) pos) (tS cl E own (zh3 i fe)):=by
 refine PS.imp (zjc (zqG (es:=[]) yce PySem.F.slot_list_append PySem.F.type_list_append zit (zdn hN hv hd hcd) (zcr he zd6 (zbN hpl)) (hfew:=ziG (by simp [hpl]) (by simp)) (hline:=hln) (hs:=zbN hpl) (hplain:=rfl))) ?_;rintro De σ H ⟨B,w,ρ,S,rfl,R,q⟩;unfold zh3 at q;split at q
 ·rename_i l hl;obtain ⟨a,xs,e1,h1,h2,t⟩:=R.list hl;refine ⟨_,e1,.inl ⟨rfl,_,SqL.of h2⟩,B,w,ρ,S,rfl,R,?_⟩
  cases hf:fe ρ S with
  | bad=>rwa [hf] at q
  | exc c S1=>rw [hf] at q;exact fun w' R' F'=>q σ w' R' F'
  | ok d S1 =>
   rw [hf] at q;intro v w' R' F' h';dsimp only at q
   cases hz:zbb l.length with
   | false=>rw [hz,if_neg (by decide)] at q;exact q.elim
   | true =>
    rw [hz,if_pos rfl] at q;obtain ⟨a',xs',e1',h1',h2',t'⟩:=R'.list hl;rw [e1] at e1';cases e1';refine ⟨a,xs',v,rfl,rfl,h2',by rw [t'.length];exact zjK hz,?_⟩;exact q σ (w'.mut a (.lst (xs'++[v]))) (R'.mut (d0:=.non) e1 h1' (.lst (t'.append (.cons h' .nil)))) (F'.trans (zei (by rw [h1'];exact yaU _)))
 ·exact q.elim
end
end S2
namespace L2
open PySem PySem.Spec PyProof.Rows
section
variable{prog:Program}{w:World}{A:Around}{E:Z5}{s:Shared}
def znG{it t:Addr}{j:Nat}{vs:Array Value}{v:Value}{Q:Z5}(st:s.heap.IsTupleIter it t j)(tp:s.heap.IsTuple t vs)(e:vs[j]?=some v)
  (q:∀h',h'.IsTupleIter it t (j+1)->Heap.SameBut it s.heap h'->Q v { s with heap:=h' }):wpAny (model prog w) A (Builtin.SmallTypes.nextOf (.ref it)) Q E s:=by
 obtain ⟨o1,g1,c1,d1⟩:=id st;obtain ⟨o2,g2,_,n2,d2⟩:=tp;unfold Builtin.SmallTypes.nextOf;refine yad (ya8 (name:=Str.ofString "__next__") st.typeIs ybD (ybm ybD st.typeIs F.entry_tuple_iterator_next ?_ (F.args_tuple_iterator_next_1 _)));show wpAny _ _ (field (.ref it) 0 >>= _) _ _ s;refine yad (ybA g1 d1 (x:=.ref t) rfl ?_);show wpAny _ _ (if (Value.ref t == Value.none)=true then _ else _) _ _ s;rw [if_neg (show ¬ ((Value.ref t == Value.none)=true) from fun z=>yba z)];show wpAny _ _ (field (.ref it) 1 >>= _) _ _ s;refine yad (ybA g1 d1 (x:=.int j 0) rfl ?_);show wpAny _ _ (seqItems? (.ref t) >>= _) _ _ s;refine yad (ybQ g2 d2 ?_);simp only [yaB,e];refine yad (wpAny_setField g1 d1 (by simp) (yaj ⟨v,rfl,yaj (q _ ?_ (Heap.SameBut.update ..))⟩));refine ⟨_,ycw _ g1 (Obj.isFreed_of_fields (Obj.data_mapFields d1 _)),(Obj.cls_mapFields ..).trans c1,?_⟩;rw [Obj.data_mapFields d1];simp [rawInt]
def zlr{it t:Addr}{j:Nat}{vs:Array Value}{Q:Z5}(hh:A.handled=none)(st:s.heap.IsTupleIter it t j)(tp:s.heap.IsTuple t vs)(e:vs[j]?=none)
  (q:∀h' x,Heap.ExtBut it s.heap h'->(∃o,h'.get? x=some o/\o.cls=.type "StopIteration")->E (.ref x) { s with heap:=h' }):wpAny (model prog w) A (Builtin.SmallTypes.nextOf (.ref it)) Q E s:=by
 obtain ⟨o1,g1,c1,d1⟩:=id st;obtain ⟨o2,g2,_,n2,d2⟩:=tp;unfold Builtin.SmallTypes.nextOf;refine yad (ya8 (name:=Str.ofString "__next__") st.typeIs ybD (ybm ybD st.typeIs F.entry_tuple_iterator_next ?_ (F.args_tuple_iterator_next_1 _)));show wpAny _ _ (field (.ref it) 0 >>= _) _ _ s;refine yad (ybA g1 d1 (x:=.ref t) rfl ?_);show wpAny _ _ (if (Value.ref t == Value.none)=true then _ else _) _ _ s;rw [if_neg (show ¬ ((Value.ref t == Value.none)=true) from fun z=>yba z)];show wpAny _ _ (field (.ref it) 1 >>= _) _ _ s;refine yad (ybA g1 d1 (x:=.int j 0) rfl ?_);show wpAny _ _ (seqItems? (.ref t) >>= _) _ _ s;refine yad (ybQ g2 d2 ?_);simp only [yaB,e];refine yad (yc9 (yad (wpAny_setField g1 d1 (by simp) ?_)));show wpAny _ _ (newExc (.type "StopIteration") [] >>= _) _ _ _;refine yad ?_;simp only [newExc,newTuple];refine yad (ybo ?_ (by size_fits));refine yad (m:=firstArgMember _ _) (wpAny_of_eq (a:=Value.none) ?_ ?_)
 ·first | rfl | (simp only [firstArgMember];rfl)
 refine ybo ?_ (by size_fits);simp only [raiseNew];refine yad (wpAny_handled ?_)
 first | rw [show A.in1.handled=none from hh] | rw [hh]
 refine yad (yaj (wpAny_throw (q _ _ (((Heap.SameBut.update ..).extBut.push _).push _) ⟨_,yau _ rfl,rfl⟩)))
def ziN(hh:A.handled=none)(it t:Addr)(ne:t≠it)(vs:Array Value):Draws prog w A it [it,t] vs.size (fun j v=>vs[j]?=some v) (fun j h=>h.IsTupleIter it t j/\h.IsTuple t vs) where
 live:=fun _ _ st=>by obtain ⟨⟨o,ho,_⟩,_⟩:=st;exact ⟨o,ho⟩
 frame:=fun _ _ _ st hk=>⟨st.1.at fun o e=>hk it (by simp) o e,by obtain ⟨o,ho,r⟩:=st.2;exact ⟨o,hk t (by simp) o ho,r⟩⟩
 item:=fun j s Q E hj st hQ=>znG st.1 st.2 (v:=vs[j]) (by simp [hj]) fun h' st' sb=>hQ _ h' s.toks (by simp [hj]) ⟨st',by obtain ⟨o,ho,r⟩:=st.2;exact ⟨o,(sb.2 t ne).trans ho,r⟩⟩ sb
 done:=fun s Q E st hE=>zlr hh st.1 st.2 (by simp) hE
def ziI(l:Addr)(items:Array Value)(n:Nat)(dct:Option Addr)(sl:Array (Option Value)) :
  Meets (Builtin.«enumerate.__new__» ⟨[.type "enumerate",.ref l],[]⟩) (fun _ R s=>s.heap.get? l=some { cls:=.type "tuple",dict:=dct,data:=.seq items n,slots:=sl } ∧
   R (.ok (.ret (.ref (s.heap.push { cls:=.type "tuple_iterator",data:=.fields #[.ref l,.int 0 0] }).objs.size)))
    { s with heap:=(s.heap.push { cls:=.type "tuple_iterator",data:=.fields #[.ref l,.int 0 0] }).push { cls:=.type "enumerate",data:=.fields #[.none,.bool false,.ref s.heap.objs.size,rawInt 0,.none,.none] } }) :=
 .of_wp fun prog w A R s h=>by
  obtain ⟨hp,g,d,tk,os⟩:=s;obtain ⟨hl,h⟩:=h;have hsub:=sub_enumerate;have hT:Heap.IsTuple (Shared.heap ⟨hp,g,d,tk,os⟩) l items:=⟨_,hl,rfl,n,rfl⟩
  wp_walk using yca hl
  refine wpAny_stack_any fun st=>yaj ?_
  split
  ·rename_i c _ _ _ _ _
   cases (c == Value.type "enumerate")<;>(wp_walk using yca hl,ybJ hT;exact ⟨_,rfl,h⟩)
  ·wp_walk using yca hl,ybJ hT;exact ⟨_,rfl,h⟩
def zhE{l:Addr}{items:Array Value}{Q:Z5}(hL:s.heap.IsTuple l items)
  (h:∀h',IsEnum h' (s.heap.objs.size+1) s.heap.objs.size 0 .none->h'.IsTupleIter s.heap.objs.size l 0->h'.objs.size=s.heap.objs.size+2->(∀b o,s.heap.get? b=some o->h'.get? b=some o)->Q (.ref (s.heap.objs.size+1)) { s with heap:=h' }) :
  wpAny (model prog w) A (call (.type "enumerate") [.ref l]) Q E s:=by
 obtain ⟨⟨c,dct,dt,sl⟩,hl,hc,n,hd⟩:=hL;simp only at hc hd;subst hc hd;refine callType_new F.called_enumerate (by decide) (F.typeCall_enumerate_1 _) (F.newCall_enumerate_1 _) (fun obj=>F.args_object_init_2 obj _) F.entry_enumerate_new (ziI l items n dct sl) ⟨hl,?_⟩;generalize hp1:s.heap.push { cls:=.type "tuple_iterator",data:=.fields #[.ref l,.int 0 0] }=h1
 have hz:h1.objs.size=s.heap.objs.size+1:=by rw [<-hp1];exact yaZ ..
 have k1:∀b o,s.heap.get? b=some o->h1.get? b=some o:=fun b o x=>by rw [<-hp1];exact yaf _ x
 have i1:h1.get? s.heap.objs.size=some { cls:=.type "tuple_iterator",data:=.fields #[.ref l,.int 0 0] }:=by rw [<-hp1];exact yau _ rfl
 show _/\_;rw [hz]
 have he:IsEnum (h1.push { cls:=.type "enumerate",data:=.fields #[.none,.bool false,.ref s.heap.objs.size,rawInt 0,.none,.none] }) (s.heap.objs.size+1) s.heap.objs.size 0 .none:=by
  rw [<-hz];exact yau _ rfl
 exact ⟨⟨_,he,rfl⟩,h _ he ⟨_,yaf _ i1,rfl,rfl⟩ (by rw [yaZ,hz]) fun b o x=>yaf _ (k1 b o x)⟩
end
section
variable{X:Cx}{pins:Z3}{σ:St}{H:Hp}{s:Shared}
def Inv.turnedL{t':Nat}{h':Heap}{ch:List Addr}(I:Inv X pins σ H s)(k:∀b o,b ∉ ch->s.heap.get? b=some o->h'.get? b=some o)(hf:∀b∈ch,znv X pins H b):Inv X pins σ H { s with heap:=h',toks:=t' }:=by
 have nit:∀b u,H b=some u->b ∉ ch:=fun b u e z=>by rw [(hf b z).1] at e;cases e
 refine I.step (g':=s.gens) (d':=s.drawn) (ch:=ch) (fun b hb=>?_) (fun b o _ _ hc e _=>k b o hc e) (fun b o _ _ hc e _=>⟨o.slots,k b o hc e⟩) (fun _ _ _ _ n=>n) (fun b o hc e=>⟨o,k b o hc e⟩) (fun _ _ e=>e) (fun _ _ _ e=>e) (fun b ps e=>⟨#[],by rw [e];simp⟩) (fun m hm=>?_) (fun b u e=>?_) I.bare
 ·obtain ⟨f0,f1,f2,f3,f4,f5⟩:=hf b hb;exact ⟨f3,f1,f4,f5⟩
 ·obtain ⟨o,es,ep,ho,r⟩:=hm;exact ⟨o,es,ep,k _ o (fun z=>(hf _ z).2.1 rfl) ho,r⟩
 ·refine (I.hok b u e).stay (fun c v hc q=>k c v ?_ q) (fun _ q=>q) fun _ _ q=>q
  rcases hc with z | z
  ·rw [z];exact nit b u e
  ·exact nit c _ z
noncomputable def ItE(S:Hp->Addr->List V->Prop)(a:Addr):It :=
 ⟨fun i H=>∃xs x,S H a xs/\xs[i]?=some x,fun i H x H'=>∃t y,x=.ref t/\H t=none/\H'=upd H t (.tup [.int (i:Int),y])/\∀xs,S H a xs->xs[i]?=some y,fun i H=>∃xs,S H a xs/\xs.length<=i⟩
def zoN{i:Nat}{e it T:Addr}{h1 h2:Heap}{tk:Nat}{x:Value}{y:V}(I:Inv X pins σ H s)(hf:∀b∈[e,it],znv X pins H b)(hT:T=s.heap.objs.size)(te:h1.get? T=some { cls:=.type "tuple",data:=.seq #[.int i tk,x] })
  (k:∀b o,b≠e->b≠it->s.heap.get? b=some o->h1.get? b=some o) (sb:Heap.SameBut e h1 h2) (ne:T≠e) (ry:zbM y x):Inv X pins σ (upd H T (.tup [.int (i:Int),y])) { s with heap:=h2,toks:=tk+1 }/\H T=none:=by
 have fr:H T=none:=by rw [hT];exact I.hok.fresh (yam _)
 refine ⟨?_,fr⟩
 have I1:Inv X pins σ H { s with heap:=h2,toks:=tk+1 }:=I.turnedL (ch:=[e,it]) (fun b o hb q=>by
  simp only [yaA,yaV,ycF,not_or] at hb
  exact (sb.2 b hb.1).trans (k b o hb.1 hb.2 q)) hf
 refine I1.track fr (by rw [hT];exact I.sz) (by rw [hT];exact ya3 I.lt) (fun z c q=>?_) (fun p hp=>?_) ?_
 ·obtain ⟨v,cq⟩:=I.cell z c q;rw [hT];exact yaz cq.lt
 ·rw [hT];exact yaz (yas (I.pin p hp).1)
 ·refine ⟨by show 2<=sizeLine;decide,[.int i tk,x],.cons ⟨tk,rfl⟩ (.cons ry .nil),?_⟩;exact ⟨_,(sb.2 T ne).trans te,rfl,_,rfl,rfl⟩
def zkI{P:Program}{K:PySem.W.Frag}(a it e:Addr)(hei:e≠it):Turn P w K (.Tuple elts x1 pos) (ItE (SqT K) a) [e,it] e (fun i h=>(∃old,IsEnum h e it (i:Int) old)/\h.IsTupleIter it a i) where
 mem:=by simp
 obj:=fun i h st b hb=>by
  obtain ⟨⟨old,he⟩,o,ho,c,d⟩:=st;simp only [yaA,yaV,ycF] at hb
  rcases hb with rfl | rfl
  ·exact ⟨_,he,fun v z=>by cases z⟩
  ·exact ⟨o,ho,fun v z=>by rw [d] at z;cases z⟩
 keep:=fun i h h' st k=>by
  obtain ⟨⟨old,he⟩,hi⟩:=st;exact ⟨⟨old,k e (by simp) _ he⟩,hi.at fun o q=>k it (by simp) o q⟩
 item:=by
  intro X hP hw hK hc i pins s σ H E I hf st hg;subst hP hw hK;obtain ⟨xs,x,hq,hx⟩:=hg;obtain ⟨⟨old,he⟩,hi⟩:=st;obtain ⟨its,rv,p,hz⟩:=I.tuple hq;obtain ⟨u,hu,ru⟩:=rv.get hx
  have hlt:i<its.toArray.size:=by
   have:=(yan.mp hu).1;simpa using this
  have nat':a≠it:=by
   rintro rfl;obtain ⟨o,q,c,_⟩:=hi;obtain ⟨o2,q2,c2,_⟩:=id p;rw [q] at q2;cases q2;rw [c] at c2;simp at c2
  have nae:e ∉ [it,a]:=by
   simp only [yaA,yaV,ycF,not_or];refine ⟨hei,?_⟩;rintro rfl;obtain ⟨o2,q2,c2,_⟩:=id p;rw [he] at q2;cases q2;simp at c2
  refine wpAny_pyNext_enum_itemD (D:=ziN (A:=X.A.in1) (I.ok.hd hc) it a nat' its.toArray) he ⟨hi,show s.heap.IsTuple a its.toArray from p⟩ hlt hei nae fun u' h1 tk hu' ho hi1 ht1 hz1 k1=>?_
  have eu:u'=u:=by
   have:its[i]?=some u':=by simpa using hu'
   rw [hu] at this;exact (Option.some.inj this).symm
  subst eu;have neT:s.heap.objs.size≠e:=ya3 (yas he);refine ⟨_,rfl,wpAny_letOwnedTupleGo_enum ho fun h2 he2 sb=>?_⟩;obtain ⟨I2,fr⟩:=zoN (h2:=h2) (y:=x) I hf rfl ht1 k1 sb neT ru;refine ⟨.ref s.heap.objs.size,_,I2,rfl,⟨_,x,rfl,fr,rfl,fun ys hy=>by rw [I.tuple_inj hy hq];exact hx⟩,⟨⟨u',by simpa using he2⟩,hi1.1.at fun o q=>(sb.2 it (Ne.symm hei)).trans q⟩,fun b hb=>?_⟩;rw [zau]
  ·exact (hf b hb).1
  ·rintro rfl;simp only [yaA,yaV,ycF] at hb
   rcases hb with z | z
   ·exact neT z
   ·obtain ⟨o,q,_⟩:=hi;exact absurd (yas q) (by rw [<-z];exact ya2 _)
 done:=by
  intro X hP hw hK hc i pins s σ H E I hf st hg;subst hP hw hK;obtain ⟨xs,hq,hx⟩:=hg;obtain ⟨⟨old,he⟩,hi⟩:=st;obtain ⟨its,rv,p,hz⟩:=I.tuple hq;have hl:=rv.length;obtain ⟨f0,f1,f2,f3,f4,f5⟩:=hf it (by simp);have ty:s.TypeIs (.ref e) "enumerate":=⟨_,he,rfl⟩;unfold pyNext;refine yad (wpAny_attempt (ya8 (name:=Str.ofString "__next__") ty F.slot_enumerate_next (ybm F.slot_enumerate_next ty F.entry_enumerate_next ?_ (F.args_enumerate_next_1 _))));show wpAny _ _ (field (.ref e) 2 >>= _) _ _ _;refine yad (ybA he rfl (x:=.ref it) rfl ?_);refine yad (zlr (I.ok.hd hc) hi (show s.heap.IsTuple a its.toArray from p) (by simp;omega) fun h' x eb hx'=>?_);obtain ⟨o,ho,hcl⟩:=hx';refine yad (ycz (T:="StopIteration") (b:=true) ⟨o,ho,hcl⟩ isSubtype_stop ?_);exact yaj ⟨rfl,I.turned (t':=s.toks) (fun b o hb q=>eb b o hb q) f0 f1 f3 f4 f5⟩
 self:=fun _ _ _ _ _ st h=>by
  obtain ⟨⟨old,he⟩,_⟩:=st;exact wpAny_pyIter_enum he h
theorem zni:bootBuiltins "enumerate" = some (.type "enumerate"):=by decide +kernel
noncomputable def zAr(S:Hp->Addr->List V->Prop)(ta:TA):TI:=fun σ H R=>ta σ H fun vs H1=>∃a,vs=[.ref a]/\(∃xs,S H1 a xs)/\R (ItE S a) H1
theorem zn9{K:PySem.W.Frag}{elts:List Expr}{x1:Nat}{tp:Pos}{a:Expr}{ta:TA}{p pos:Pos}(hg:Gl X "enumerate")(hm:X.mg "enumerate" = none)(ha:PA X [a] ta)(hK:X.K=K:=by rfl)(hs:starEach [a] X.env=[(false,eval a X.env)]:=by rfl) :
  PI X (.Tuple elts x1 tp) (.Call (.Name "enumerate" p) [a] [] pos) (zAr (SqT K) ta):=by
 subst hK;intro pins s σ H R I h;refine Call_ (zfT I hg hm zni (ybi (thn (ha pos pins s σ H _ I h) fun us s1 ⟨vs,H1,I1,r1,q1⟩=>?_) hs rfl));obtain ⟨b,e,⟨xs,hq⟩,q⟩:=q1;subst e
 cases r1 with
 | cons r rr =>
  cases rr;cases r;obtain ⟨its,rv,pl,hz⟩:=I1.tuple hq;refine zhE (show s1.heap.IsTuple b its.toArray from pl) fun h' he hi hz' k=>wpAny_pyIter_enum he ?_
  refine ⟨s1.heap.objs.size+1,[s1.heap.objs.size+1,s1.heap.objs.size],_,_,H1,rfl,I1.kept (t':=s1.toks) k,zkI b _ _ (Nat.succ_ne_self _),⟨⟨_,he⟩,hi⟩,fun c hb=>?_,q⟩;simp only [yaA,yaV,ycF] at hb
  have hc:s1.heap.objs.size<=c:=by rcases hb with rfl | rfl<;>omega
  exact I1.fpOk hc (I1.hok.fresh hc)
end
end L2
namespace S2
open PySem PySem.Spec PyProof.Rows L2
structure ItOk(cl:Cf)(w:Wd)(J:It)(ds:List D):Prop where
 go:∀w',Fut w w'->∀i,i<ds.length->J.go i w'.H
 stop:∀w',Fut w w'->J.stop ds.length w'.H
 yld:∀w',Fut w w'->∀i d x H',ds[i]?=some d->J.yld i w'.H x H'->∃w'',w''.H=H'/\Grow w' w''/\Shd cl w'' x d
noncomputable abbrev Fi:=Env->Sto->Out (List D)
noncomputable def tI(cl:Cf)(E:St->XK)(f:Fi):TI:=fun σ H R'=>∃B w ρ S,w.H=H/\Rel cl B σ w ρ S/\match f ρ S with
 | .ok ds S'=>∀J w',Rel cl B σ w' ρ S'->Fut w w'->ItOk cl w' J ds->R' J w'.H
 | .exc c S'=>∀w',Rel cl B σ w' ρ S'->Fut w w'->E σ (.ref (cl c)) none w'.H
 | .bad=>False
def PI.imp(h:PI X tg it t)(i:∀σ H Q,t' σ H Q->t σ H Q):PI X tg it t':=fun pins s σ H Q I q=>h pins s σ H Q I (i _ _ _ q)
inductive Tg where | one (i:Nat) | tup (is:List Nat)
noncomputable def zff:List Nat->List D->Env->Option Env
 | [],[],ρ=>some ρ
 | i::is,d::ds,ρ=>zff is ds (ρ.set i (some (false,d)))
 | _,_,_=>none
noncomputable def Tg.put:Tg->Env->D->Option Env
 | .one i,ρ,d=>some (ρ.set i (some (false,d)))
 | .tup is,ρ,.tup ds=>zff is ds ρ
 | .tup _,_,_=>none
noncomputable def tG(cl:Cf)(n:Nat)(tg:Tg):TG:=fun v σ H Q=>∃B w ρ S d ρ',w.H=H/\Rel cl B σ w ρ S/\Shd cl w v d/\tg.put ρ d=some ρ'/\∀σ',σ'.length=σ.length->σ'.drop n=σ.drop n->Rel cl B σ' w ρ' S->Q σ' w.H
def PG.imp(h:PG X tg t)(i:∀v σ H Q,t' v σ H Q->t v σ H Q):PG X tg t':=fun pins s σ H v u Q I r q=>h pins s σ H v u Q I r (i _ _ _ _ q)
def zf2(tg:Tg)(body:Fs):List D->Env->Sto->Fo
 | [],ρ,S=>.nx ρ S
 | d::ds,ρ,S=>match tg.put ρ d with
  | none=>.bad
  | some ρ1=>match body ρ1 S with
   | .nx ρ' S'=>zf2 tg body ds ρ' S'
   | .ct ρ' S'=>zf2 tg body ds ρ' S'
   | .bk ρ' S'=>.nx ρ' S'
   | o=>o
noncomputable def zhK(tg:Tg)(it:Fi)(body:Fs):Fs:=fun ρ S=>match it ρ S with
 | .ok ds S'=>zf2 tg body ds ρ S'
 | .exc c S'=>.ex c ρ S'
 | .bad=>.bad
def zdk(c:Fe)(body:Fs):Nat->Env->Sto->Fo
 | 0,_,_=>.bad
 | n+1,ρ,S=>match c ρ S with
  | .ok d S'=>(match isB d with
   | some true=>(match body ρ S' with
    | .nx ρ' S'=>zdk c body n ρ' S'
    | .ct ρ' S'=>zdk c body n ρ' S'
    | .bk ρ' S'=>.nx ρ' S'
    | o=>o)
   | some false=>.nx ρ S'
   | none=>.bad)
  | .exc x S'=>.ex x ρ S'
  | .bad=>.bad
section
variable{X:Cx}{cl:Cf}{E:St->XK}{own:Bool}{e iter tg:Expr}{body:List Stmt}{fb:Fs}{fi:Fi}{fc:Fe}{t:Tg}{pos:Pos}
theorem zks{α:Type}{l:List α}{a:α}(h:i<n):(l.set i a).drop n=l.drop n:=by
 refine ya9 fun k=>?_
 rw [ybb,ybb,yaQ (by omega)]
def zsF(hin:i<n)(hN:X.N.Nodup)(hi:X.N[i]?=some x)(hx:Loc X.env.scope x)(hf:X.fn x=true\/X.env.scope.names.lookup x=some .local):PG X (.Name x pos) (tG cl n (.one i)):=by
 refine PG.imp (zhh hN hi hx hf) ?_;rintro v σ H Q ⟨B,w,ρ,S,d,ρ',rfl,R,h,hp,q⟩;cases hp;exact q _ (yaR ..) (zks hin) (R.put h)
noncomputable def tGs(cl:Cf)(n:Nat)(is:List Nat):TGs:=fun vs σ H Q=>∃B w ρ S ds ρ',w.H=H/\Rel cl B σ w ρ S/\Shds cl w vs ds/\zff is ds ρ=some ρ'/\∀σ',σ'.length=σ.length->σ'.drop n=σ.drop n->Rel cl B σ' w ρ' S->Q σ' w.H
def zqg:PGs X [] (tGs cl n []):=by
 intro pins s σ H vs us Q I r h;obtain ⟨B,w,ρ,S,ds,ρ',rfl,R,hs,hp,q⟩:=h
 cases hs with
 | nil =>
  cases hp;exact zl8 pins s σ w.H [] us Q I r ⟨rfl,q σ rfl rfl R⟩
 | cons _ _=>cases hp
def znN(hin:i<n)(hN:X.N.Nodup)(hi:X.N[i]?=some x)(hx:Loc X.env.scope x)(hf:X.fn x=true\/X.env.scope.names.lookup x=some .local)(h2:PGs X es (tGs cl n is)):PGs X (.Name x pos::es) (tGs cl n (i::is)):=by
 intro pins s σ H vs us Q I r h;obtain ⟨B,w,ρ,S,ds,ρ',rfl,R,hs,hp,q⟩:=h;refine zhg (zhh hN hi hx hf) h2 rfl pins s σ w.H vs us Q I r ?_
 cases hs with
 | nil=>cases hp
 | cons h t =>
  rename_i v d vs ds;exact ⟨v,vs,rfl,B,w,_,S,ds,ρ',rfl,R.put h,t,hp,fun σ' e1 e2=>q σ' (e1.trans (yaR ..)) (e2.trans (zks hin))⟩
def zsE(hc:X.calm=true)(h:PGs X es (tGs cl n is))(hn:(assignEach es X.env).length=is.length)(hst:(assignEach es X.env).findIdx? (·.1)=none):PG X (.Tuple es k pos) (tG cl n (.tup is)):=by
 refine PG.imp (zpq hc h hn hst) ?_;rintro v σ H Q ⟨B,w,ρ,S,d,ρ',rfl,R,h,hp,q⟩
 cases h with
 | tup e k r =>
  have hl:∀(is:List Nat) (ds:List D) (ρ ρ':Env),zff is ds ρ=some ρ'->ds.length=is.length:=by
   intro is
   induction is with
   | nil=>intro ds ρ ρ' h;cases ds with
    | nil=>rfl
    | cons _ _=>cases h
   | cons i is ih=>intro ds ρ ρ' h;cases ds with
    | nil=>cases h
    | cons d ds=>rw [yai,yai,ih ds _ _ h]
  rename_i a xs ds;refine ⟨a,xs,rfl,SqT.of e,by rw [r.length];exact hl is ds ρ ρ' hp,B,w,ρ,S,ds,ρ',rfl,R,r,hp,q⟩
 | _=>cases hp
theorem zsu(hp:PassesOwn (model X.prog X.w) X.A X.env X.xe)(hc:X.calm=true)(hi:PI X tg iter (tI cl E fi))(hg:PG X tg (tG cl n t))(hb:PSs X body (tS cl E own fb))(hs:∀x,foldedSetIterable iter X.env x=pure x):PS X (.For tg iter body [] pos) (tS cl E own (zhK t fi fb)):=by
 refine PS.imp (zs4 hp hc hi hg hb hs) ?_;rintro De σ H ⟨B,w,ρ,S,rfl,R,q⟩;refine ⟨B,w,ρ,S,rfl,R,?_⟩;unfold zhK at q
 cases hf:fi ρ S with
 | bad=>rwa [hf] at q
 | exc c S1=>rw [hf] at q;exact fun w' R' F'=>q σ w' R' F'
 | ok ds S1 =>
  rw [hf] at q;intro J w0 R0 F0 hJ;dsimp only at q;refine ⟨fun i m σ' H'=>m=ds.length-i/\i<=ds.length/\∃w1 ρ1 S2,w1.H=H'/\Fut w0 w1/\Rel cl B σ' w1 ρ1 S2/\zhH cl E own B w1 De (zf2 t fb (ds.drop i) ρ1 S2),⟨ds.length,by simp,ybn _,w0,ρ,S1,rfl,Fut.refl _,R0,by rw [List.drop_zero];exact zhH.up F0 q⟩,?_⟩;rintro i m σ1 H1 ⟨rfl,hi,w1,ρ1,S2,rfl,F1,R1,q1⟩
  by_cases hlt:i<ds.length
  ·obtain ⟨d,hd⟩:∃d,ds[i]?=some d:=⟨ds[i],yaa hlt⟩
   have hdr:ds.drop i=d::ds.drop (i+1):=by
    rw [yb1 hlt];rw [yaa hlt] at hd;cases hd;rfl
   rw [hdr] at q1;unfold zf2 at q1
   cases hp1:t.put ρ1 d with
   | none=>rw [hp1] at q1;exact q1.elim
   | some ρ2 =>
    rw [hp1] at q1;dsimp only at q1;refine .inr ⟨hJ.go w1 F1 i hlt,fun σ' H'=>i+1<=ds.length/\∃w1 ρ1 S2,w1.H=H'/\Fut w0 w1/\Rel cl B σ' w1 ρ1 S2/\zhH cl E own B w1 De (zf2 t fb (ds.drop (i+1)) ρ1 S2),fun σ' H' h'=>⟨ds.length-(i+1),by omega,rfl,h'.1,h'.2⟩,fun x H' y=>?_⟩;obtain ⟨w2,rfl,g2,s2⟩:=hJ.yld w1 F1 i d x H' hd y;refine ⟨B,w2,ρ1,S2,d,ρ2,rfl,R1.grow g2,s2,hp1,fun σ2 _ _ R2=>⟨B,w2,ρ2,S2,rfl,R2,?_⟩⟩;have q2:=zhH.up g2.fut q1
    cases hb:fb ρ2 S2 with
    | bad=>rwa [hb] at q2
    | rt d S3=>rwa [hb] at q2
    | ex c ρ3 S3=>rwa [hb] at q2
    | bk ρ3 S3=>rw [hb] at q2;exact fun σ3 w3 R3 F3=>q2 σ3 w3 R3 F3
    | nx ρ3 S3=>rw [hb] at q2;exact fun σ3 w3 R3 F3=>⟨hlt,w3,ρ3,S3,rfl,F1.trans (g2.fut.trans F3),R3,zhH.up F3 q2⟩
    | ct ρ3 S3=>rw [hb] at q2;exact fun σ3 w3 R3 F3=>⟨hlt,w3,ρ3,S3,rfl,F1.trans (g2.fut.trans F3),R3,zhH.up F3 q2⟩
  ·have e:i=ds.length:=by omega
   subst e;rw [List.drop_length] at q1;exact .inl ⟨hJ.stop w1 F1,q1 σ1 w1 R1 (Fut.refl _)⟩
def zh2(n:Nat)(c:Fe)(body:Fs):Fs:=zdk c body n
def znK(n:Nat)(hp:PassesOwn (model X.prog X.w) X.A X.env X.xe)(hc:PT X c (tTr cl E fc))(hb:PSs X body (tS cl E own fb)):PS X (.While c body [] pos) (tS cl E own (zh2 n fc fb)):=by
 refine PS.imp (zn3 hp hc hb) ?_;rintro De σ H ⟨B,w,ρ,S,rfl,R,q⟩;refine ⟨fun m σ' H'=>∃w1 ρ1 S2,w1.H=H'/\Fut w w1/\Rel cl B σ' w1 ρ1 S2/\zhH cl E own B w1 De (zdk fc fb m ρ1 S2),⟨n,w,ρ,S,rfl,Fut.refl _,R,q⟩,?_⟩;rintro m σ1 H1 ⟨w1,ρ1,S1,rfl,F1,R1,q1⟩
 cases m with
 | zero=>exact q1.elim
 | succ m =>
  unfold zdk at q1;refine ⟨B,w1,ρ1,S1,rfl,R1,?_⟩
  cases hg:fc ρ1 S1 with
  | bad=>rwa [hg] at q1
  | exc c S2=>rw [hg] at q1;exact fun w' R' F'=>q1 σ1 w' R' F'
  | ok d S2 =>
   rw [hg] at q1;dsimp only at q1 ⊢
   cases hb:isB d with
   | none=>rw [hb] at q1;exact q1.elim
   | some b =>
    rw [hb] at q1;intro w2 R2 F2
    cases b with
    | false=>exact zoC (q1 σ1 w2 R2 F2)
    | true =>
     refine zoB ⟨fun σ' H'=>∃w1 ρ1 S2,w1.H=H'/\Fut w w1/\Rel cl B σ' w1 ρ1 S2/\zhH cl E own B w1 De (zdk fc fb m ρ1 S2),fun σ' H' h'=>⟨m,ybF _,h'⟩,B,w2,ρ1,S2,rfl,R2,?_⟩;have q2:=zhH.up F2 q1;dsimp only at q2
     cases hx:fb ρ1 S2 with
     | bad=>rwa [hx] at q2
     | rt d S3=>rwa [hx] at q2
     | ex c ρ3 S3=>rwa [hx] at q2
     | bk ρ3 S3=>rw [hx] at q2;exact fun σ3 w3 R3 F3=>q2 σ3 w3 R3 F3
     | nx ρ3 S3=>rw [hx] at q2;exact fun σ3 w3 R3 F3=>⟨w3,ρ3,S3,rfl,F1.trans (F2.trans F3),R3,zhH.up F3 q2⟩
     | ct ρ3 S3=>rw [hx] at q2;exact fun σ3 w3 R3 F3=>⟨w3,ρ3,S3,rfl,F1.trans (F2.trans F3),R3,zhH.up F3 q2⟩
def zkr(f:Fe):Fi:=fun ρ S=>(f ρ S).bind fun d S1=>match d with | .lst l=>.ok l S1 | _=>.bad
def zjq(f:Fe):Fi:=fun ρ S=>(f ρ S).bind fun d S1=>match d with | .tup l=>.ok l S1 | _=>.bad
theorem zlJ(he:PE X e (tE cl E fc)):PI X tg e (tI cl E (zkr fc)):=by
 refine PI.imp (zqD he) ?_;rintro σ H Q ⟨B,w,ρ,S,rfl,R,q⟩;refine ⟨B,w,ρ,S,rfl,R,?_⟩;unfold zkr at q
 cases hf:fc ρ S with
 | bad=>rwa [hf] at q
 | exc c S1=>rwa [hf] at q
 | ok d S1 =>
  rw [hf] at q;intro v w' R' F' h';dsimp only [Out.bind] at q
  cases h' with
  | lst e k r =>
   rename_i a xs ds;refine ⟨a,rfl,⟨xs,SqL.of e⟩,q _ w' R' F' ?_⟩;have hl:=r.length;refine ⟨fun w1 F1 i hi=>⟨xs,xs[i]'(by omega),SqL.of (F1.keep _ _ e k).1,yaa (by omega)⟩,fun w1 F1=>⟨xs,SqL.of (F1.keep _ _ e k).1,by omega⟩,fun w1 F1 i d x H1 hd y=>?_⟩;obtain ⟨rfl,hy⟩:=y;have hx:=hy xs (SqL.of (F1.keep _ _ e k).1);obtain ⟨d',e1,e2⟩:=r.get hx;rw [hd] at e1;cases e1;exact ⟨w1,rfl,Grow.refl _,e2.up F1⟩
  | _=>exact q.elim
def zsC(he:PE X e (tE cl E fc)):PI X tg e (tI cl E (zjq fc)):=by
 refine PI.imp (zs7 he) ?_;rintro σ H Q ⟨B,w,ρ,S,rfl,R,q⟩;refine ⟨B,w,ρ,S,rfl,R,?_⟩;unfold zjq at q
 cases hf:fc ρ S with
 | bad=>rwa [hf] at q
 | exc c S1=>rwa [hf] at q
 | ok d S1 =>
  rw [hf] at q;intro v w' R' F' h';dsimp only [Out.bind] at q
  cases h' with
  | tup e k r =>
   rename_i a xs ds;refine ⟨a,rfl,⟨xs,SqT.of e⟩,q _ w' R' F' ?_⟩;have hl:=r.length;refine ⟨fun w1 F1 i hi=>⟨xs,xs[i]'(by omega),SqT.of (F1.keep _ _ e k).1,yaa (by omega)⟩,fun w1 F1=>⟨xs,SqT.of (F1.keep _ _ e k).1,by omega⟩,fun w1 F1 i d x H1 hd y=>?_⟩;obtain ⟨rfl,hy⟩:=y;have hx:=hy xs (SqT.of (F1.keep _ _ e k).1);obtain ⟨d',e1,e2⟩:=r.get hx;rw [hd] at e1;cases e1;exact ⟨w1,rfl,Grow.refl _,e2.up F1⟩
  | _=>exact q.elim
noncomputable def zat(lo hi:Int):List D:=(List.range (hi-lo).toNat).map fun (i:Nat)=>.int (lo+i)
def zd4(f:Fe):Fi:=fun ρ S=>(zan [f] ρ S).bind fun ds S1=>match ds with | [.int j]=>if -1000000<=j/\j<=1000000 then .ok (zat 0 j) S1 else .bad | _=>.bad
def zt4{w:Wd}{lo hi:Int}{n:Nat}(hn:n=(hi-lo).toNat):ItOk cl w (Itr lo n) (zat lo hi):=by
 subst hn
 have hl:(zat lo hi).length=(hi-lo).toNat:=by unfold zat;rw [yae,yby]
 refine ⟨fun w1 F1 i h=>by rw [hl] at h;exact h,fun w1 F1=>by rw [hl];exact yam _,fun w1 F1 i d x H1 hd y=>?_⟩;obtain ⟨rfl,rfl⟩:=y;unfold zat at hd;rw [yal] at hd
 cases hr:(List.range (hi-lo).toNat)[i]? with
 | none=>rw [hr] at hd;cases hd
 | some j =>
  rw [hr] at hd;have:=(yan.mp hr).2;rw [List.getElem_range] at this;subst this;cases hd;exact ⟨w1,rfl,Grow.refl _,.int _⟩
theorem zqe(hg:Gl X "range")(hm:X.mg "range" = none)(ha:PA X [e] (tAs cl E [fc]))(hs:starEach [e] X.env=[(false,eval e X.env)]):PI X tg (.Call (.Name "range" p) [e] [] pos) (tI cl E (zd4 fc)):=by
 refine PI.imp (zl7 hg hm ha hs) ?_;rintro σ H Q ⟨B,w,ρ,S,rfl,R,q⟩;refine ⟨B,w,ρ,S,rfl,R,?_⟩;unfold zd4 at q
 cases hf:zan [fc] ρ S with
 | bad=>rwa [hf] at q
 | exc c S1=>rwa [hf] at q
 | ok ds S1 =>
  rw [hf] at q;intro vs w' R' F' h';dsimp only [Out.bind] at q;split at q
  ·rename_i ds' S' hm';split at hm'
   ·rename_i j;split at hm'
    ·rename_i hb;cases hm'
     cases h' with
     | cons h1 h2 =>
      cases h1;cases h2;exact ⟨j,rfl,by omega,by omega,q _ w' R' F' (zt4 (by omega))⟩
    ·cases hm'
   ·cases hm'
  ·rename_i hm';split at hm'<;>first | (split at hm'<;>cases hm') | cases hm'
  ·exact q.elim
end
noncomputable def zuw(ρ:Env)(i:Nat):Option (Bool×D):=match ρ[i]? with | some (some (false,d))=>some (false,d) | _=>none
def zcc(n:Nat)(caps:List Nat)(ρ:Env):Env:=List.replicate n none++caps.map (zuw ρ)
def zdq:Fe:=zag (.bl true)
def zbm(tg:Tg)(c elt:Fe)(ρ0:Env):List D->Sto->Out (List D)
 | [],S=>.ok [] S
 | d::ds,S=>match tg.put ρ0 d with
  | none=>.bad
  | some ρ1=>(c ρ1 S).bind fun b S1=>match isB b with
   | some true=>(elt ρ1 S1).bind fun y S2=>(zbm tg c elt ρ0 ds S2).bind fun ys S3=>.ok (y::ys) S3
   | some false=>zbm tg c elt ρ0 ds S1
   | none=>.bad
def zb1(n:Nat)(tg:Tg)(it:Fi)(c elt:Fe)(caps:List Nat):Fe:=fun ρ S=>(it ρ S).bind fun ds S1=>match zbm tg c elt (zcc n caps ρ) ds S1 with
 | .ok ys S2=>if zbb ys.length then .ok (.lst ys) S2 else .bad
 | _=>.bad
noncomputable abbrev noE:St->XK:=fun _ _ _ _=>False
section
variable{cl:Cf}
theorem zmN{caps:List (Str×Nat)}(R:Rel cl B σ w ρ S)(W1:World' cl B1 w1 S1)(F1:Fut w w1){σ':St}(hσ:σ'.length=n+caps.length)(hc:σ'.drop n=caps.map fun p=>(σ[p.2]?).join) :
  Rel cl B1 σ' w1 (zcc n (caps.map (·.2)) ρ) S1 where
 wd:=W1
 len:=by unfold zcc;rw [hσ,yah,yaC,yae,yae]
 slots:=fun i o d h=>by
  unfold zcc at h
  by_cases hi:i<n
  ·rw [yax (by rw [yaC];exact hi),ya7] at h
   split at h<;>cases h
  ·rw [yap (by rw [yaC];omega),yaC,yaK,yal] at h
   cases hp:caps[i-n]? with
   | none=>rw [hp] at h;cases h
   | some p =>
    rw [hp] at h;have h':zuw ρ p.2=some (o,d):=Option.some.inj h;unfold zuw at h';split at h'
    ·rename_i d' hd;cases h';obtain ⟨v,e,x⟩:=R.slots p.2 false d hd;refine ⟨v,?_,Shd.up F1 x⟩;have:=congrArg (fun l=>l[i-n]?) hc;rw [ybb,yal,hp] at this;rw [show n+(i-n)=i by omega] at this;rw [this];show some ((σ[p.2]?).join)=_;rw [e];rfl
    ·cases h'
end
section
variable{X:Cx}{cl:Cf}{E:St->XK}
theorem zpM(q:tN cl E (zb1 n t fi fc fe (caps.map (·.2))) σ H Q) :
  zjH (tI cl E fi) (tG cl n t) (tTr cl noE fc) (tE cl noE fe) n caps σ H Q:=by
 obtain ⟨B,w,ρ,S,rfl,R,q⟩:=q;refine ⟨B,w,ρ,S,rfl,R,?_⟩;unfold zb1 at q
 cases hf:fi ρ S with
 | bad=>rwa [hf] at q
 | exc c S1=>rwa [hf] at q
 | ok ds S1 =>
  rw [hf] at q;dsimp only [Out.bind] at q;intro J w0 R0 F0 hJ
  cases hcd:zbm t fc fe (zcc n (caps.map (·.2)) ρ) ds S1 with
  | bad=>rw [hcd] at q;exact q.elim
  | exc _ _=>rw [hcd] at q;exact q.elim
  | ok all Sf =>
   rw [hcd] at q;dsimp only at q
   cases hz:zbb all.length with
   | false=>rw [hz,if_neg (by decide)] at q;exact q.elim
   | true =>
    rw [hz,if_pos rfl] at q;dsimp only at q;refine ⟨fun i m ys σ' H'=>m=ds.length-i/\i<=ds.length/\σ'.length=n+caps.length/\σ'.drop n=(caps.map fun p=>(σ[p.2]?).join)/\∃w1 S2 es zcj,w1.H=H'/\Fut w0.inn w1/\World' cl w0.base w1 S2/\Shds cl w1 ys es/\zbm t fc fe (zcc n (caps.map (·.2)) ρ) (ds.drop i) S2=.ok zcj Sf/\es++zcj=all,⟨ds.length,by simp,ybn _,by simp [capσ],by simp [capσ],w0.inn,S1,[],all,rfl,Fut.refl _,R0.wd.enter,.nil,by rw [List.drop_zero];exact hcd,rfl⟩,?_⟩;rintro i m ys σ1 H1 ⟨rfl,hi,hl1,hd1,w1,S2,es,zcj,rfl,F1,W1,sh,hrest,hall⟩;refine ⟨?_,?_⟩
    ·rw [sh.length];refine yak ?_ (zbn hz);rw [<-hall,yah];omega
    have F1':Fut w0 w1:=(zcM w0).trans F1
    by_cases hlt:i<ds.length
    ·obtain ⟨d,hdi⟩:∃d,ds[i]?=some d:=⟨ds[i],yaa hlt⟩
     have hdr:ds.drop i=d::ds.drop (i+1):=by
      rw [yb1 hlt];rw [yaa hlt] at hdi;cases hdi;rfl
     rw [hdr] at hrest;unfold zbm at hrest;refine .inr ⟨hJ.go w1 F1' i hlt,fun x H' y=>?_⟩;obtain ⟨w2,rfl,g2,s2⟩:=hJ.yld w1 F1' i d x H' hdi y;have R1:Rel cl w0.base σ1 w2 (zcc n (caps.map (·.2)) ρ) S2:=zmN R0 (W1.grow g2) (F1'.trans g2.fut) hl1 hd1
     cases hp:t.put (zcc n (caps.map (·.2)) ρ) d with
     | none=>rw [hp] at hrest;cases hrest
     | some ρ1 =>
      rw [hp] at hrest;dsimp only at hrest;refine ⟨w0.base,w2,_,S2,d,ρ1,rfl,R1,s2,hp,fun σ2 hk1 hk2 R2=>⟨w0.base,w2,ρ1,S2,rfl,R2,?_⟩⟩
      cases hc:fc ρ1 S2 with
      | bad=>rw [hc] at hrest;cases hrest
      | exc _ _=>rw [hc] at hrest;cases hrest
      | ok b S3 =>
       rw [hc] at hrest;dsimp only [Out.bind] at hrest ⊢
       cases hb:isB b with
       | none=>rw [hb] at hrest;cases hrest
       | some bb =>
        rw [hb] at hrest;intro w3 R3 F3
        cases bb with
        | false=>exact zoC ⟨ds.length-(i+1),by omega,rfl,hlt,hk1.trans hl1,hk2.trans hd1,w3,S3,es,zcj,rfl,F1.trans (g2.fut.trans F3),R3.wd,sh.up (g2.fut.trans F3),hrest,hall⟩
        | true =>
         refine zoB ⟨w0.base,w3,ρ1,S3,rfl,R3,?_⟩;dsimp only at hrest
         cases he:fe ρ1 S3 with
         | bad=>rw [he] at hrest;cases hrest
         | exc _ _=>rw [he] at hrest;cases hrest
         | ok yv S4 =>
          rw [he] at hrest;dsimp only at hrest
          cases hr:zbm t fc fe (zcc n (caps.map (·.2)) ρ) (ds.drop (i+1)) S4 with
          | bad=>rw [hr] at hrest;cases hrest
          | exc _ _=>rw [hr] at hrest;cases hrest
          | ok zs S5 =>
           rw [hr] at hrest;cases hrest;intro v w4 R4 F4 h4;have ff:=g2.fut.trans (F3.trans F4);exact ⟨ds.length-(i+1),by omega,rfl,hlt,hk1.trans hl1,hk2.trans hd1,w4,S4,es++[yv],zs,rfl,F1.trans ff,R4.wd,(sh.up ff).append (.cons h4 .nil),hr,by rw [<-hall,ycr];rfl⟩
    ·have e:i=ds.length:=by omega
     subst e;rw [List.drop_length] at hrest;cases hrest;rw [yaX] at hall;subst hall;refine .inl ⟨hJ.stop w1 F1',fun p hp=>?_⟩;obtain ⟨Rb,Fb⟩:=R0.leave W1 F1;exact q p (.lst ys) (w0.back w1) Rb (F0.trans Fb) hp (.lst (sh.up (zdR W1)))
end
end S2
namespace L2
open PySem PySem.Spec PyProof.Rows
def CXE(P:Program)(w:World):CXT:=fun outer H s E e s'=>∃(a:Addr) (cls a0:Value) (H':Hp) (B:Heap),e=.ref a/\Heap.FlyingW B outer a cls a0 s'.heap ∧
 (∀b o,s'.heap.get? b=some o->H' b≠none->B.get? b=some o)/\(∀b o,s.heap.get? b=some o->H b=none->b ∉ frs outer->B.get? b=some o) ∧
 (∀b o,s.heap.get? b=some o->b ∉ frs outer->∃o',B.get? b=some o') ∧
 s'.os=s.os/\AllBare s'.gens/\Un (frs outer) [] H H' s.heap s'.heap/\HOk P w H' s'.heap/\E cls none H'
def zb8.has(x:zb8 P w H h a o):∃ob,h.get? a=some ob:=by
 cases o with
 | lst xs=>obtain ⟨_,_,_,_,e⟩:=x;exact ⟨_,e⟩
 | tup xs=>obtain ⟨_,_,_,ob,e,_⟩:=x;exact ⟨_,e⟩
 | dK kvs=>obtain ⟨_,_,_,_,o,_,_,e,_⟩:=x;exact ⟨_,e⟩
 | dT kvs=>obtain ⟨_,_,_,_,o,_,_,e,_⟩:=x;exact ⟨_,e⟩
 | set S n=>obtain ⟨o,_,_,_,e,_⟩:=x;exact ⟨_,e⟩
 | ins C dx fs=>obtain ⟨_,_,_,e,_⟩:=x;exact ⟨_,e⟩
 | own y=>exact x
 | xd fs=>obtain ⟨_,⟨_,_,_,e,_⟩,_⟩:=x;exact ⟨_,e⟩
 | rng lo hi=>obtain ⟨_,_,_,e⟩:=x;exact ⟨_,e⟩
 | frz ob u=>obtain ⟨e,_⟩:=x;exact ⟨_,e⟩
 | tbl ps=>exact ⟨_,(show h.get? a=some _ from x)⟩
 | met f y=>exact ⟨_,(show h.get? a=some _ from x)⟩
 | ext φ=>obtain ⟨_,e,_⟩:=x;exact e
def HOk.same(x:HOk P w H h)(k:∀b u,h.get? b=some u->H b≠none->h'.get? b=some u):HOk P w H h':=fun a o e =>
 (x a o e).stay (fun b u hb q=>k b u q (hb.elim (fun z=>by rw [z,e];exact yaU _) (fun z=>by rw [z];exact yaU _))) (fun _ q=>q) fun _ _ q=>q
section
variable{X:Cx}{pins:Z3}{σ:St}{H:Hp}{s:Shared}{M:Model}
def zoK(l:List Env):∀env∈l,∀b,env.frame=some b->b∈frs l:=fun env he b hb=>ycc.mpr ⟨env,he,hb⟩
def zk6(I:Inv X pins σ H s)(hx:X.ex=[])(hs:X.stack=X.env::X.outer)(hf:X.env.frame=some X.env.locals)(mk:Heap.MadeExcOf s.heap h' e cls vs)(q:E cls none H) :
  wpAny M X.A (leaving X.env (.ref e)) (fun _ s''=>CXE X.prog X.w X.outer X.H₀ X.s₀ E (.ref e) s'') Er { s with heap:=h' }:=by
 have hfr:X.A.frames=some (X.env::X.outer):=by rw [<-hs];exact I.ok.frames
 have hst:s.heap.FunFrames X.base (X.env::X.outer):=by rw [<-hs];exact I.stack
 refine wpAny_leaves_madeW (base:=PySem.W.hideAll s.heap (frs (X.env::X.outer))) hfr hf (fun b o z=>PySem.W.of_hideAll _ z) (PySem.W.funFrames_hide hst (zoK _)) mk fun h2 t fl tup _ up=>?_
 have inB:∀b o,s.heap.get? b=some o->b ∉ frs (X.env::X.outer)->(PySem.W.hideAll s.heap (frs (X.env::X.outer))).get? b=some o:=fun b o z n=>PySem.W.hideAll_get _ z n
 have sub:∀b,b∈frs (X.env::X.outer)->b=X.env.locals\/b∈X.fs:=fun b hb=>by
  rw [<-hs] at hb;exact yaA.mp (I.stkSub b hb)
 have fre:∀b,b∈frs (X.env::X.outer)->H b=none:=fun b hb=>by rw [<-hs] at hb;exact I.stkFree b hb
 have old:∀b o,X.s₀.heap.get? b=some o->b ∉ frs X.outer->b ∉ frs (X.env::X.outer):=fun b o z n hb=>by
  rcases sub b hb with r | r
  ·exact absurd (yaq (yas z) I.ok.above) (by rw [r];exact ya2 _)
  ·exact n r
 have nx:∀b:Addr,b ∉ X.ex:=fun b z=>by rw [hx] at z;cases z
 have trk:∀b o,s.heap.get? b=some o->H b≠none->h2.get? b=some o:=fun b o z n=>fl.1 b o (inB b o z fun hb=>n (fre b hb))
 have hok2:HOk X.prog X.w H h2:=I.hok.same trk
 have slt:∀b o,s.heap.get? b=some o->b∈frs X.stack->∃sl,h2.get? b=some { o with slots:=sl }:=fun b o z hb=>by
  obtain ⟨_,o',z',hd⟩:=I.stack.mem hb;rw [z] at z';cases z';exact up b o (mk.keeps b o z) hd
 have un2:Un (frs X.stack) [] H H s.heap h2:=⟨fun b o z n hb _=>fl.1 b o (inB b o z (by rw [<-hs];exact hb)),fun b o z n hb _=>slt b o z hb,fun b o z n _=>n,
  fun b o z _=>by
   by_cases hb:b∈frs X.stack
   ·obtain ⟨sl,r⟩:=slt b o z hb;exact ⟨_,r⟩
   ·exact ⟨o,fl.1 b o (inB b o z (by rw [<-hs];exact hb))⟩,
  fun _ _ z=>z,fun _ _ _ z=>z,fun _ ps z=>⟨#[],by rw [z,Array.append_empty]⟩⟩
 have J:=I.call (g':=s.gens) (t':=s.toks) (d':=s.drawn) (ch:=[]) un2 hok2 I.bare (fun b z=>absurd z (by simp));refine ⟨e,cls,.ref t,H,_,rfl,fl,fun b o z n=>?_,fun b o z n hb=>?_,fun b o z hb=>?_,J.os,J.bare,?_,J.hok,q⟩
 ·cases k:H b with
  | none=>exact absurd k n
  | some u =>
   obtain ⟨o',z'⟩:=(I.hok b u k).has;have:=trk b o' z' n;rw [show h2.get? b=some o from z] at this;cases this;exact inB b o z' fun hb=>n (fre b hb)
 ·exact inB b o (I.base.keep b o z n hb (nx b)) (old b o z hb)
 ·obtain ⟨o',z'⟩:=I.base.there b o z (nx b);exact ⟨o',inB b o' z' (old b o z hb)⟩
 ·have:=J.base;rwa [hx] at this
def zou(I:Inv X pins σ H s)(hx:X.ex=[])(hs:X.stack=X.env::X.outer)(hf:X.env.frame=some X.env.locals)(q:CXE X.prog X.w X.stack H s E e s') :
  wpAny M X.A (leaving X.env e) (fun _ s''=>CXE X.prog X.w X.outer X.H₀ X.s₀ E e s'') Er s':=by
 have hfr:X.A.frames=some (X.env::X.outer):=by rw [<-hs];exact I.ok.frames
 obtain ⟨a,cls,a0,H',B,rfl,fl,c1,c2,c3,os,bare,un,hok,q⟩:=q
 have fl':Heap.FlyingW B (X.env::X.outer) a cls a0 s'.heap:=by rw [<-hs];exact fl
 refine wpAny_leaves_onW hfr hf fl' fun h2 fl2 up=>?_
 have sub:∀b,b∈frs X.stack->b=X.env.locals\/b∈X.fs:=fun b hb=>yaA.mp (I.stkSub b hb)
 have old:∀b o,X.s₀.heap.get? b=some o->b ∉ frs X.outer->b ∉ frs X.stack:=fun b o z n hb=>by
  rcases sub b hb with r | r
  ·exact absurd (yaq (yas z) I.ok.above) (by rw [r];exact ya2 _)
  ·exact n r
 have nx:∀b:Addr,b ∉ X.ex:=fun b z=>by rw [hx] at z;cases z
 have trk:∀b o,s'.heap.get? b=some o->H' b≠none->h2.get? b=some o:=fun b o z n=>fl2.1 b o (c1 b o z n)
 have hok2:HOk X.prog X.w H' h2:=hok.same trk
 have slt:∀b o,s.heap.get? b=some o->H b=none->b∈frs X.stack->∃sl,h2.get? b=some { o with slots:=sl }:=fun b o z n hb=>by
  obtain ⟨_,o',z',hd⟩:=I.stack.mem hb;rw [z] at z';cases z';obtain ⟨sl,r⟩:=un.slot b o z n hb (by simp);obtain ⟨sl',r'⟩:=up b ({ o with slots:=sl }:Obj) r hd;exact ⟨sl',r'⟩
 have un2:Un (frs X.stack) [] H H' s.heap h2:=⟨fun b o z n hb _=>fl2.1 b o (c2 b o z n hb),fun b o z n hb _=>slt b o z n hb,un.free,
  fun b o z _=>by
   by_cases hb:b∈frs X.stack
   ·obtain ⟨sl,r⟩:=slt b o z (I.stkFree b hb) hb;exact ⟨_,r⟩
   ·obtain ⟨o',r⟩:=c3 b o z hb
    exact ⟨o',fl2.1 b o' r⟩,
  un.tups,un.frzs,un.tbls⟩
 have J:=I.call (g':=s'.gens) (t':=s'.toks) (d':=s'.drawn) (ch:=[]) un2 hok2 bare (fun b z=>absurd z (by simp));refine ⟨a,cls,a0,H',B,rfl,fl2,fun b o z n=>?_,fun b o z n hb=>?_,fun b o z hb=>?_,os.trans I.os,bare,?_,J.hok,q⟩
 ·cases k:H' b with
  | none=>exact absurd k n
  | some u =>
   obtain ⟨o',z'⟩:=(hok b u k).has;have:=trk b o' z' n;rw [show h2.get? b=some o from z] at this;cases this;exact c1 b o z' n
 ·exact c2 b o (I.base.keep b o z n hb (nx b)) (I.base.free b o z n (nx b)) (old b o z hb)
 ·obtain ⟨o',z'⟩:=I.base.there b o z (nx b);exact c3 b o' z' (old b o z hb)
 ·have:=J.base;rwa [hx] at this
end
def zth{P:Program}{K:PySem.W.Frag} :
  zuJ (CXE P w) (zm3 (CXE P w) P w K mg base N qual scope f cd A outer s H E) E:=fun pins σ H1 s1 e s' I q =>
 zou (X:=zm3 (CXE P w) P w K mg base N qual scope f cd A outer s H E) I rfl rfl rfl q
def zrr{K:PySem.W.Frag}{h:Heap}(k:K.In h)(z:PySem.W.excIn K C bmB nid=true) :
  ∃bm N nm qn bs hd sn sub ab col dd c0 c1 c2 c3 c5 mN,h.get? C=some (excClassObj nm qn C N bs bm hd sn sub ab col dd c0 c1 c2 c3 c5 nid)/\h.Ns N mN/\mN "__init__" = none/\OwnTail h bmB bm:=by
 unfold PySem.W.excIn at z;split at z
 case h_2=>cases z
 case h_1 dd cd sl ho =>
  split at z
  case h_2=>cases z
  case h_1 D bm c0 c1 c2 c3 n c5 e1 e2 =>
   simp only [yac,ycq,yct] at z;obtain ⟨⟨⟨⟨⟨z1,z2⟩,z3⟩,z4⟩,z5⟩,z6⟩:=z;subst z1 z2
   have hsl:sl=#[c0,c1,c2,c3,some (.builtin n),c5]:=by
    cases sl with
    | mk l=>exact congrArg Array.mk e2
   have hcd:cd={ cd with mro:=.ref D::bm,hasDel:=false }:=by
    cases cd;simp only at e1 z3;simp only [e1,z3]
   rw [hsl,hcd] at ho;exact ⟨bm,cd.ns,cd.name,_,cd.bases,_,_,_,_,_,dd,c0,c1,c2,c3,c5,_,k _ _ ho,.of_isNs (PySem.W.isNs_of_in k z5),PySem.W.nsMap_none_of_in k z5 z6,PySem.W.tail_of_in k z4⟩
noncomputable def zuI(X:Cx)(E:XK):Prop:=∀(C:Addr) (pins:Z3) (σ:St) (H:Hp) (s:Shared) (e:Addr) (h':Heap) (vs:List Value),Inv X pins σ H s->Heap.MadeExcOf s.heap h' e (.ref C) vs->E (.ref C) none H->X.xe (.ref e) { s with heap:=h' }
def zlZ{P:Program}{K:PySem.W.Frag} :
  zuI (zm3 (CXE P w) P w K mg base N qual scope f cd A outer s H E) E:=fun C pins σ H1 s1 e h' vs I mk q =>
 zk6 (X:=zm3 (CXE P w) P w K mg base N qual scope f cd A outer s H E) I rfl rfl rfl mk q
noncomputable def XP(X:Cx)(pins:Z3)(σ:St)(E:XK)(e:Value)(s':Shared):Prop:=∃H1 s1,Inv X pins σ H1 s1/\CXE X.prog X.w X.stack H1 s1 E e s'
section
variable{X:Cx}{pins:Z3}{σ:St}{H H':Hp}{s s':Shared}{B h2:Heap}{a:Addr}{cls a0:Value}
noncomputable abbrev Cx.inH(X:Cx)(a:Addr):Cx:={ X with A:=X.A.mark (some (.ref a)),calm:=false,xe:=fun _ _=>False }
end
noncomputable def zrU(K:PySem.W.Frag)(C D:Addr):Prop:=(∃bC iC,PySem.W.excIn K C bC iC=true)/\∃cd d cl sl,K.lookup C=some ⟨cl,d,.cls cd,sl⟩/\cd.mro.contains (.ref D)=true
noncomputable def Ends.goes(D:Ends)(i:Nat):Ends:={ nx:=fun σ H=>D.nx (σ.set i none) H,rt:=D.rt,bk:=fun σ H=>D.bk (σ.set i none) H,ct:=fun σ H=>D.ct (σ.set i none) H }
end L2
namespace PySem.W
open PySem
structure ExcCls(K:Frag)(C:Addr):Prop where
 ga:findIn K (.ref C) "__getattribute__" = some (some (.builtin "BaseException.__getattribute__"))
 gt:findIn K (.ref C) "__getattr__" = some none
 cl:findIn K (.ref C) "__class__" = some (some (.builtin "object.__class__"))
 ob:subIn K (.ref C) (.type "object")=some true
 be:subIn K (.ref C) (.type "BaseException")=some true
 is:∃c d cd sl,K.lookup C=some ⟨c,d,.cls cd,sl⟩
end PySem.W
namespace L2
open PySem PySem.Spec PyProof.Rows
open PySem PySem.Spec PyProof.Rows PySem.SeqAt
theorem zjV(ns:List Int):∀j,j<=ns.length->preSum (fun i=>ns.getD i 0) j=(ns.take j).sum
 | 0,_=>by rw [List.take_zero];rfl
 | j+1,h=>by
  have ih:=zjV ns j (by omega);show preSum _ j+ns.getD j 0=_
  have e:ns.take (j+1)=ns.take j++[ns[j]]:=by rw [yc6,yaa (by omega)];rfl
  have e2:ns.getD j 0=ns[j]:=by simp [List.getD,show j<ns.length by omega]
  rw [ih,e,e2,List.sum_append];simp
theorem zig(ns:List Int)(h:∀n∈ns,0<=n/\n<=1000000):∀j,j<=ns.length->0<=preSum (fun i=>ns.getD i 0) j/\preSum (fun i=>ns.getD i 0) j<=1000000*(j:Int)
 | 0,_=>⟨Int.le_refl _,Int.le_refl _⟩
 | j+1,hj=>by
  have ih:=zig ns h j (by omega)
  have e:ns.getD j 0=ns[j]:=by simp [List.getD,show j<ns.length by omega]
  have hb:=h ns[j] (yaS (by omega));show 0<=preSum _ j+ns.getD j 0/\preSum _ j+ns.getD j 0<=_;rw [e]
  push_cast
  omega
section
variable{X:Cx}
theorem zoZ(hc:X.calm=true):zet X (.builtin "sum") (fun xs H Q=>∃(p:Addr) (ns:List Int),xs=[.ref p]/\SqL X.K H p (ns.map V.int)/\ns.length<=1000/\(∀n∈ns,0<=n/\n<=1000000)/\Q (.int ns.sum) H):=by
 intro pins s σ H xs us Q I r h;obtain ⟨p,ns,rfl,hq,hl1000,hb,q⟩:=h;obtain ⟨u,rfl,rx⟩:=zgX r;cases rx;obtain ⟨its,rv,pl,hz⟩:=I.list hq;have hl:=pl.isList
 have hlt:p<s.heap.objs.size:=by obtain ⟨_,e,_⟩:=hl;exact yas e
 have hn:its.length=ns.length:=by have:=rv.length;rw [yae] at this;exact this.symm
 refine call_sum_walk (yc3 hl ?_);refine ⟨s.heap.objs.size,[s.heap.objs.size,p],[s.heap.objs.size],its.toArray.size,_,_,fun i=>ns.getD i 0,rfl,Walks.list (A:=X.A.in1) (I.ok.hd hc) _ p (yaz hlt) its.toArray,⟨⟨_,yau _ rfl,rfl,rfl⟩,hl.push _⟩,fun b hm=>?_,fun i v hP=>?_,fun j hj=>?_,fun h' tk t' hk=>?_⟩
 ·show b<(s.heap.push _).objs.size;rw [yaZ];simp only [yaA,yaV,ycF] at hm
  rcases hm with z | z
  ·rw [z];exact ybF _
  ·rw [z];exact ycs hlt
 ·have hv:its[i]?=some v:=by simpa using hP
  have hi:i<ns.length:=by rw [<-hn];exact (yan.mp hv).1
  obtain ⟨u,hu,ru⟩:=rv.get (i:=i) (x:=.int ns[i]) (by rw [yal,yaa hi];rfl);rw [hv] at hu;cases hu;obtain ⟨t,rfl⟩:=ru;exact ⟨t,by simp [List.getD,hi]⟩
 ·rw [yag,hn] at hj;have h1:=zig ns hb (j+1) hj
  have e:ns.getD j 0=ns[j]:=by simp [List.getD,hj]
  have h2:=hb ns[j] (yaS hj);refine ⟨?_,?_⟩
  ·show InLong (ns.getD j 0);rw [e];exact ⟨by omega,by omega⟩
  ·have:((j+1:Nat):Int)<=1000:=by omega
   exact ⟨by omega,by omega⟩
 ·rw [yag,hn,zjV ns ns.length (yam _),List.take_length];refine ⟨.int _,H,I.kept (t':=tk) fun b o e=>?_,⟨t',rfl⟩,q⟩;exact hk b o (fun hm=>by rw [yaF.mp hm] at e;exact ya2 _ (yas e)) (yaf _ e)
end
end L2
namespace S2
open PySem PySem.Spec PyProof.Rows L2
mutual
def D.py:D->PyData
 | .non=>.none
 | .bl b=>.bool b
 | .int i=>.int i
 | .str x=>.str x
 | .tup l=>.tuple (D.pys l)
 | .lst l=>.list (D.pys l)
 | .scr l=>.list (l.map PyData.int)
 | .dic _=>.none
 | .ref _=>.none
 | .exc _=>.none
def D.pys:List D->List PyData
 | []=>[]
 | d::l=>d.py::D.pys l
end
mutual
def D.fit:Nat->D->Bool
 | _,.non=>true
 | _,.bl _=>true
 | _,.int _=>true
 | _,.str x=>PyData.strOk x
 | 0,.tup _=>false
 | n+1,.tup l=>D.fits n l
 | 0,.lst _=>false
 | n+1,.lst l=>D.fits n l
 | 0,.scr _=>false
 | _+1,.scr _=>true
 | _,.dic _=>false
 | _,.ref _=>false
 | _,.exc _=>false
def D.fits:Nat->List D->Bool
 | _,[]=>true
 | n,d::l=>d.fit n&&D.fits n l
end
theorem D.fits_iff:∀{l:List D},D.fits n l=true↔∀d∈l,d.fit n=true
 | []=>by simp [D.fits]
 | d::l=>by simp [D.fits,D.fits_iff (l:=l)]
theorem zkc:∀(l:List Int),PyData.canLayAll0 (l.map PyData.int)=true/\PyData.depthAll (l.map PyData.int)=0
 | []=>⟨rfl,rfl⟩
 | i::l=>by
  obtain ⟨a,b⟩:=zkc l;exact ⟨by simp [PyData.canLayAll0,PyData.canLay0,a],by simp [PyData.depthAll,PyData.depth,b]⟩
mutual
theorem D.lay:∀{n:Nat} {d:D},d.fit n=true->d.py.canLay0=true/\d.py.depth<=n
 | _,.non,_=>⟨rfl,ybn _⟩
 | _,.bl _,h=>⟨rfl,ybn _⟩
 | _,.int _,_=>⟨rfl,ybn _⟩
 | _,.str x,h=>⟨by simpa [D.fit,D.py,PyData.canLay0] using h,ybn _⟩
 | 0,.tup _,h=>by simp [D.fit] at h
 | 0,.lst _,h=>by simp [D.fit] at h
 | 0,.scr _,h=>by simp [D.fit] at h
 | n+1,.scr l,h=>by
  obtain ⟨a,b⟩:=zkc l;exact ⟨by simpa [D.py,PyData.canLay0] using a,by simp only [D.py,PyData.depth];omega⟩
 | _,.dic _,h=>by simp [D.fit] at h
 | _,.ref _,h=>by simp [D.fit] at h
 | _,.exc _,h=>by simp [D.fit] at h
 | n+1,.tup l,h=>by
  have h':D.fits n l=true:=by simpa [D.fit] using h
  obtain ⟨a,b⟩:=D.lays h';exact ⟨by simpa [D.py,PyData.canLay0] using a,by simp only [D.py,PyData.depth];omega⟩
 | n+1,.lst l,h=>by
  have h':D.fits n l=true:=by simpa [D.fit] using h
  obtain ⟨a,b⟩:=D.lays h';exact ⟨by simpa [D.py,PyData.canLay0] using a,by simp only [D.py,PyData.depth];omega⟩
theorem D.lays:∀{n:Nat} {l:List D},D.fits n l=true->PyData.canLayAll0 (D.pys l)=true/\PyData.depthAll (D.pys l)<=n
 | _,[],_=>⟨rfl,ybn _⟩
 | n,d::l,h=>by
  simp only [D.fits,yac] at h;obtain ⟨a,b⟩:=D.lay h.1;obtain ⟨c,e⟩:=D.lays h.2;exact ⟨by simp [D.pys,PyData.canLayAll0,a,c],by simp only [D.pys,PyData.depthAll];omega⟩
end
section
variable{X:Cx}{cl:Cf}{w:Wd}
def TopV.lstI(h:TopV cl w v (.lst ds)):∃a xs,v=.ref a/\w.H a=some (.lst xs)/\Shds cl w xs ds:=by
 cases h with
 | sh h=>cases h with
  | lst e k r=>exact ⟨_,_,rfl,e,r⟩
 | ow e t=>cases t with
  | lst r=>exact ⟨_,_,rfl,e,r⟩
def TopV.tupI(h:TopV cl w v (.tup ds)):∃a xs,v=.ref a/\w.H a=some (.tup xs)/\w.ow a=none/\Shds cl w xs ds:=by
 cases h with
 | sh h=>cases h with
  | tup e k r=>exact ⟨_,_,rfl,e,k,r⟩
 | ow e t=>cases t
def TopV.intI(h:TopV cl w v (.int i)):v=.int i:=by
 cases h with
 | sh h=>cases h;rfl
 | ow e t=>cases t
def TopV.strI(h:TopV cl w v (.str i)):v=.str i:=by
 cases h with
 | sh h=>cases h;rfl
 | ow e t=>cases t
def TopV.blI(h:TopV cl w v (.bl i)):v=.bl i:=by
 cases h with
 | sh h=>cases h;rfl
 | ow e t=>cases t
def TopV.nonI(h:TopV cl w v .non):v=.non:=by
 cases h with
 | sh h=>cases h;rfl
 | ow e t=>cases t
def Shd.scrI(hK:X.K=cl.K)(h:Shd cl w v (.scr l)):∃a,v=.ref a/\SqL X.K w.H a (l.map V.int):=by
 cases h with
 | scr e k=>exact ⟨_,rfl,.inl (.inr ⟨_,e⟩)⟩
 | scrK h=>exact ⟨_,rfl,by rw [hK];exact h _⟩
theorem TopV.scrI(hK:X.K=cl.K)(h:TopV cl w v (.scr l)):∃a,v=.ref a/\SqL X.K w.H a (l.map V.int):=by
 cases h with
 | sh h=>exact h.scrI hK
 | ow e t=>cases t
def zjS(I:Inv X pins σ w.H s)(hK:X.K=cl.K)(h:Shd cl w v (.scr l))(r:zbM v u):∃as,Reads s.heap u (D.scr l).py as:=by
  obtain ⟨a,rfl,hq⟩:=h.scrI hK;cases r;obtain ⟨its,rv,p,_⟩:=I.list hq;obtain ⟨o,ho,hc,n,hd⟩:=id p.isList
  have go:∀{l:List Int} {us:List Value},Vals (l.map V.int) us->∃as,ReadsAll s.heap us (l.map PyData.int) as:=by
   intro l
   induction l with
   | nil=>intro us h;cases h;exact ⟨_,.nil⟩
   | cons i l ih =>
    intro us h
    cases h with
    | cons h1 h2 =>
     obtain ⟨t,rfl⟩:=h1;obtain ⟨as,ra⟩:=ih h2;exact ⟨_,.cons (.int i t) ra⟩
  obtain ⟨as,ra⟩:=go rv;exact ⟨_,.list ho hc hd (by simpa using ra)⟩
mutual
theorem zsV{pins:Z3}{σ:St}{s:Shared}(I:Inv X pins σ w.H s)(hK:X.K=cl.K):∀{v:V} {d:D} {n:Nat},Shd cl w v d->d.fit n=true->∀{u:Value},zbM v u->∃as,Reads s.heap u d.py as
 | _,_,_,.non,_,_,r=>by cases r;exact ⟨_,.none⟩
 | _,_,_,.bl b,_,_,r=>by cases r;exact ⟨_,.bool b⟩
 | _,_,_,.int i,_,_,r=>by obtain ⟨t,rfl⟩:=r;exact ⟨_,.int i t⟩
 | _,_,_,.str x,_,_,r=>by obtain ⟨t,rfl⟩:=r;exact ⟨_,.str x t⟩
 | _,_,0,.tup _ _ _,h,_,_=>by simp [D.fit] at h
 | _,_,0,.lst _ _ _,h,_,_=>by simp [D.fit] at h
 | _,_,n+1,.tup (a:=a) e _ rs,h,_,r=>by
  cases r;obtain ⟨its,rv,p,_⟩:=I.tuple (SqT.of (K:=X.K) e);obtain ⟨o,ho,hc,n,hd⟩:=id p;obtain ⟨as,ra⟩:=zez I hK rs (by simpa [D.fit] using h) rv;exact ⟨_,.tuple ho hc hd (by simpa using ra)⟩
 | _,_,n+1,.lst (a:=a) e _ rs,h,_,r=>by
  cases r;obtain ⟨its,rv,p,_⟩:=I.list (SqL.of (K:=X.K) e);obtain ⟨o,ho,hc,n,hd⟩:=id p.isList;obtain ⟨as,ra⟩:=zez I hK rs (by simpa [D.fit] using h) rv;exact ⟨_,.list ho hc hd (by simpa using ra)⟩
 | _,_,n,.scr e k,h,_,r=>zjS I hK (.scr e k) r
 | _,_,n,.scrK e,h,_,r=>zjS I hK (.scrK e) r
 | _,_,n,.dicK _ _ _,h,_,_=>by simp [D.fit] at h
 | _,_,n,.dicX _ _ _,h,_,_=>by simp [D.fit] at h
 | _,_,n,.ref _,h,_,_=>by simp [D.fit] at h
 | _,_,n,.exc _ _ _,h,_,_=>by simp [D.fit] at h
theorem zez{pins:Z3}{σ:St}{s:Shared}(I:Inv X pins σ w.H s)(hK:X.K=cl.K):∀{vs:List V} {ds:List D} {n:Nat},Shds cl w vs ds->D.fits n ds=true->∀{us:List Value},Vals vs us->∃as,ReadsAll s.heap us (D.pys ds) as
 | _,_,_,.nil,_,_,r=>by cases r;exact ⟨_,.nil⟩
 | _,_,n,.cons h t,f,_,r=>by
  simp only [D.fits,yac] at f
  cases r with
  | cons r1 r2 =>
   obtain ⟨as,a⟩:=zsV I hK h f.1 r1;obtain ⟨bs,b⟩:=zez I hK t f.2 r2;exact ⟨_,.cons a b⟩
end
def zjb(I:Inv X pins σ w.H s)(hK:X.K=cl.K)(h:TopV cl w v d)(f:d.fit n=true)(r:zbM v u):∃as,Reads s.heap u d.py as:=by
 cases h with
 | sh h=>exact zsV I hK h f r
 | ow e t =>
  cases t with
  | lst rs =>
   cases n with
   | zero=>simp [D.fit] at f
   | succ n =>
    cases r;obtain ⟨its,rv,p,_⟩:=I.list (SqL.of (K:=X.K) e);obtain ⟨o,ho,hc,n,hd⟩:=id p.isList;obtain ⟨as,ra⟩:=zez I hK rs (by simpa [D.fit] using f) rv;exact ⟨_,.list ho hc hd (by simpa using ra)⟩
  | dicK _=>simp [D.fit] at f
  | dicX _=>simp [D.fit] at f
noncomputable def zfq(d e:D):Bool:=d.py.eqv e.py
def eqD(d e:D):Option D:=if d.fit 9&&e.fit 9 then some (.bl (zfq d e)) else none
noncomputable def neD(d e:D):Option D:=if d.fit 9&&e.fit 9 then some (.bl (!zfq d e)) else none
theorem zv0(hK:X.K=cl.K)(hu:X.A.units+64<cLine):OpD X cl (compareOp .Eq) eqD:=by
 intro pins s σ H x y v u Q I rx ry h;obtain ⟨w,d,e,r,rfl,hx,hy,hg,q⟩:=h;unfold eqD at hg;split at hg
 ·rename_i hf;cases hg;rw [yac] at hf;obtain ⟨as,ra⟩:=zjb I hK hx hf.1 rx;obtain ⟨bs,rb⟩:=zjb I hK hy hf.2 ry;obtain ⟨l1,d1⟩:=D.lay hf.1;obtain ⟨l2,d2⟩:=D.lay hf.2;exact SeqAt.compareEq_reads ra rb l1 l2 (by omega) ⟨.bl _,w.H,I,rfl,q _ w (Grow.refl _) (.bl _)⟩
 ·cases hg
def zvY(hK:X.K=cl.K)(hu:X.A.units+64<cLine):OpD X cl (compareOp .NotEq) neD:=by
 intro pins s σ H x y v u Q I rx ry h;obtain ⟨w,d,e,r,rfl,hx,hy,hg,q⟩:=h;unfold neD at hg;split at hg
 ·rename_i hf;cases hg;rw [yac] at hf;obtain ⟨as,ra⟩:=zjb I hK hx hf.1 rx;obtain ⟨bs,rb⟩:=zjb I hK hy hf.2 ry;obtain ⟨l1,d1⟩:=D.lay hf.1;obtain ⟨l2,d2⟩:=D.lay hf.2;exact SeqAt.compareNe_reads ra rb l1 l2 (by omega) ⟨.bl _,w.H,I,rfl,q _ w (Grow.refl _) (.bl _)⟩
 ·cases hg
noncomputable def zkO:D->Option (List D) | .lst l=>some l | .tup l=>some l | _=>none
noncomputable def zj7(d:D)(l:List D):Bool:=l.any fun e=>zfq e d
def inD(d e:D):Option D:=match zkO e with | some l=>if d.fit 8&&D.fits 8 l then some (.bl (zj7 d l)) else none | none=>none
def zll(d e:D):Option D:=match zkO e with | some l=>if d.fit 8&&D.fits 8 l then some (.bl (!zj7 d l)) else none | none=>none
def zdZ{s:Shared}{its:List Value}{d:D}(ra:ReadsAll s.heap its (D.pys ds) as)(f:D.fits 8 ds=true):(its.toArray.any fun y=>(SeqAt.readOf s.heap y).eqv d.py)=zj7 d ds:=by
 rw [SeqAt.any_by_data (vs:=its.toArray) (xs:=D.pys ds) (as:=as) (by simpa using ra) (D.lays f).1]
 have:∀{l:List D},((D.pys l).any fun y=>y.eqv d.py)=zj7 d l:=by
  intro l
  induction l with
  | nil=>rfl
  | cons e l ih =>
   show (e.py.eqv d.py||(D.pys l).any fun y=>y.eqv d.py)=(zfq e d||zj7 d l);rw [ih];rfl
 exact this
theorem zc2{A:Around}{s:Shared}{d:D}(hu:A.units+64<cLine)(rx:Reads s.heap x d.py bs)(fd:d.fit 8=true):∀{its:List Value} {ds:List D} {as:List Addr},ReadsAll s.heap its (D.pys ds) as->D.fits 8 ds=true->∀y,y∈its.toArray->SeqAt.EqAt A.in1 s y x ((SeqAt.readOf s.heap y).eqv d.py)
 | [],[],_,_,_,y,hy=>by simp at hy
 | [],_::_,_,h,_,_,_=>by cases h
 | _::_,[],_,h,_,_,_=>by cases h
 | v::its,e::ds,_,h,f,y,hy=>by
  simp only [D.fits,yac] at f
  cases h with
  | cons h1 h2 =>
   simp at hy
   rcases hy with rfl | hy
   ·rw [zlX (D.lay f.1).1 h1];refine SeqAt.eqAt_reads _ _ _ _ _ _ _ _ h1 rx (D.lay f.1).1 (D.lay fd).1 ?_;have:=(D.lay f.1).2;show A.units+1+_<cLine;omega
   ·exact zc2 hu rx fd h2 f.2 y (by simpa using hy)
def zlL(h:zkO e=some l):e=.lst l\/e=.tup l:=by
 cases e<;>simp [zkO] at h
 ·exact .inr (by rw [h])
 ·exact .inl (by rw [h])
def zvZ(hK:X.K=cl.K)(hu:X.A.units+64<cLine):OpD X cl (compareOp .In) inD:=by
 intro pins s σ H x y v u Q I rx ry h;obtain ⟨w,d,e,r,rfl,hx,hy,hg,q⟩:=h;unfold inD at hg;split at hg
 ·rename_i l hl;split at hg
  ·rename_i hf;cases hg;rw [yac] at hf;obtain ⟨bs,rb⟩:=zjb I hK hx hf.1 rx
   rcases zlL hl with rfl | rfl
   ·obtain ⟨a,xs,rfl,e,rs⟩:=hy.lstI;cases ry;obtain ⟨its,rv,p,_⟩:=I.list (SqL.of (K:=X.K) e);obtain ⟨as,ra⟩:=zez I hK rs hf.2 rv;refine SeqAt.in_listAt _ p.isList (zc2 hu rb hf.1 ra hf.2) ?_;rw [zdZ ra hf.2];exact ⟨.bl _,w.H,I,rfl,q _ w (Grow.refl _) (.bl _)⟩
   ·obtain ⟨a,xs,rfl,e,_,rs⟩:=hy.tupI;cases ry;obtain ⟨its,rv,p,_⟩:=I.tuple (SqT.of (K:=X.K) e);obtain ⟨as,ra⟩:=zez I hK rs hf.2 rv;refine SeqAt.in_tupleAt _ p (zc2 hu rb hf.1 ra hf.2) ?_;rw [zdZ ra hf.2];exact ⟨.bl _,w.H,I,rfl,q _ w (Grow.refl _) (.bl _)⟩
  ·cases hg
 ·cases hg
def ztt(hK:X.K=cl.K)(hu:X.A.units+64<cLine):OpD X cl (compareOp .NotIn) zll:=by
 intro pins s σ H x y v u Q I rx ry h;obtain ⟨w,d,e,r,rfl,hx,hy,hg,q⟩:=h;unfold zll at hg;split at hg
 ·rename_i l hl;split at hg
  ·rename_i hf;cases hg;rw [yac] at hf;obtain ⟨bs,rb⟩:=zjb I hK hx hf.1 rx
   rcases zlL hl with rfl | rfl
   ·obtain ⟨a,xs,rfl,e,rs⟩:=hy.lstI;cases ry;obtain ⟨its,rv,p,_⟩:=I.list (SqL.of (K:=X.K) e);obtain ⟨as,ra⟩:=zez I hK rs hf.2 rv;refine SeqAt.notIn_listAt _ p.isList (zc2 hu rb hf.1 ra hf.2) ?_;rw [zdZ ra hf.2];exact ⟨.bl _,w.H,I,rfl,q _ w (Grow.refl _) (.bl _)⟩
   ·obtain ⟨a,xs,rfl,e,_,rs⟩:=hy.tupI;cases ry;obtain ⟨its,rv,p,_⟩:=I.tuple (SqT.of (K:=X.K) e);obtain ⟨as,ra⟩:=zez I hK rs hf.2 rv;refine SeqAt.notIn_tupleAt _ p (zc2 hu rb hf.1 ra hf.2) ?_;rw [zdZ ra hf.2];exact ⟨.bl _,w.H,I,rfl,q _ w (Grow.refl _) (.bl _)⟩
  ·cases hg
 ·cases hg
def zcn:D->D->Option D
 | .int i,.int j=>some (.int (i+j))
 | .tup a,.tup b=>if zbb (a.length+b.length) then some (.tup (a++b)) else none
 | .lst a,.lst b=>if zbb (a.length+b.length) then some (.lst (a++b)) else none
 | .str a,.str b=>if zbb (a.length+b.length) then some (.str (a++b)) else none
 | _,_=>none
def ztz:OpD X cl (binaryOp .Add) zcn:=by
 intro pins s σ H x y v u Q I rx ry h;obtain ⟨w,d,e,r,rfl,hx,hy,hg,q⟩:=h;unfold zcn at hg;split at hg
 ·cases hg;rename_i i j;obtain rfl:=hx.intI;obtain rfl:=hy.intI;exact ztp pins s σ w.H _ _ v u Q I rx ry ⟨i,j,rfl,rfl,q _ w (Grow.refl _) (.int _)⟩
 ·rename_i a b;split at hg
  ·rename_i hz;cases hg;obtain ⟨p,xs,rfl,ep,kp,rs⟩:=hx.tupI;obtain ⟨p2,ys,rfl,ep2,kp2,rs2⟩:=hy.tupI
   by_cases hxe:xs=[]
   ·subst hxe;cases rs;exact zok pins s σ w.H _ _ v u Q I rx ry ⟨p,p2,ys,rfl,rfl,SqT.of ep,SqT.of ep2,q _ w (Grow.refl _) (.tup ep2 kp2 rs2)⟩
   ·refine zqL pins s σ w.H _ _ v u Q I rx ry ⟨p,p2,xs,ys,rfl,rfl,SqT.of ep,SqT.of ep2,hxe,by rw [rs.length,rs2.length];exact zbn hz,fun z=>?_,fun z l hl=>?_⟩
    ·subst z;cases rs2;rw [yaX] at q;exact q _ w (Grow.refl _) (.tup ep kp rs)
    ·exact q _ (w.add l _) (zaD hl _) (Shd.newT hl (rs.append rs2))
  ·cases hg
 ·rename_i a b;split at hg
  ·rename_i hz;cases hg;obtain ⟨p,xs,rfl,ep,rs⟩:=hx.lstI;obtain ⟨p2,ys,rfl,ep2,rs2⟩:=hy.lstI;exact zto pins s σ w.H _ _ v u Q I rx ry ⟨p,p2,xs,ys,rfl,rfl,ep,ep2,by rw [rs.length,rs2.length];exact zbn hz,fun l hl=>q _ (w.add l _) (zaD hl _) (Shd.newL hl (rs.append rs2))⟩
  ·cases hg
 ·rename_i a b;split at hg
  ·rename_i hz;cases hg;obtain rfl:=hx.strI;obtain rfl:=hy.strI;exact zk0 pins s σ w.H _ _ v u Q I rx ry ⟨a,b,rfl,rfl,zbn hz,q _ w (Grow.refl _) (.str _)⟩
  ·cases hg
 ·cases hg
noncomputable def zsn:D->D->Option D | .int i,.int j=>some (.int (i-j)) | _,_=>none
def zts:OpD X cl (binaryOp .Sub) zsn:=by
 intro pins s σ H x y v u Q I rx ry h;obtain ⟨w,d,e,r,rfl,hx,hy,hg,q⟩:=h;unfold zsn at hg;split at hg
 ·cases hg;rename_i i j;obtain rfl:=hx.intI;obtain rfl:=hy.intI;exact ztj pins s σ w.H _ _ v u Q I rx ry ⟨i,j,rfl,rfl,q _ w (Grow.refl _) (.int _)⟩
 ·cases hg
noncomputable def zbL(i:Int):Bool:=decide (-(2 ^ 64)<i/\i<2 ^ 64)
def zgC:D->D->Option D
 | .int i,.int j=>if zbL i||zbL j then some (.int (i*j)) else none
 | .tup a,.int j=>if decide (1<=j/\j<=1000/\a≠[]/\a.length<=1000) then some (.tup (List.replicate j.toNat a).flatten) else none
 | .lst a,.int j=>if decide (0<=j/\j<=1000/\a.length<=1000) then some (.lst (List.replicate j.toNat a).flatten) else none
 | _,_=>none
theorem ztu:OpD X cl (binaryOp .Mult) zgC:=by
 intro pins s σ H x y v u Q I rx ry h;obtain ⟨w,d,e,r,rfl,hx,hy,hg,q⟩:=h;unfold zgC at hg;split at hg
 ·rename_i i j;split at hg
  ·rename_i hz;cases hg;obtain rfl:=hx.intI;obtain rfl:=hy.intI;refine ztl pins s σ w.H _ _ v u Q I rx ry ⟨i,j,rfl,rfl,?_,q _ w (Grow.refl _) (.int _)⟩;rw [ycN] at hz;exact hz.imp (fun z=>yar z) fun z=>yar z
  ·cases hg
 ·rename_i a j;split at hg
  ·rename_i hz;cases hg;have hz':=yar hz;obtain ⟨p,xs,rfl,ep,kp,rs⟩:=hx.tupI;obtain rfl:=hy.intI;have hl:=rs.length;obtain ⟨k,rfl⟩:∃k:Nat,j=(k:Int):=⟨j.toNat,by omega⟩;have hne:xs≠[]:=fun z=>hz'.2.2.1 (by cases a with | nil=>rfl | cons _ _=>rw [z] at hl;cases hl)
   by_cases hk:k=1
   ·subst hk;cases rx;obtain ⟨t,rfl⟩:=ry;obtain ⟨its,rv,⟨o,ho,hc,n,hd⟩,_⟩:=I.tuple (SqT.of (K:=X.K) ep);refine PySem.zop ho hc hd ⟨.ref p,w.H,I,rfl,q _ w (Grow.refl _) (.tup ep kp ?_)⟩;simpa using rs
   ·refine zqI pins s σ w.H _ _ v u Q I rx ry ⟨p,k,xs,rfl,rfl,SqT.of ep,hne,by omega,by omega,by omega,fun l hl=>q _ (w.add l _) (zaD hl _) (Shd.newT hl (rs.flat _))⟩
  ·cases hg
 ·rename_i a j;split at hg
  ·rename_i hz;cases hg;have hz':=yar hz;obtain ⟨p,xs,rfl,ep,rs⟩:=hx.lstI;obtain rfl:=hy.intI;have hl:=rs.length;refine ztk pins s σ w.H _ _ v u Q I rx ry ⟨p,j,xs,rfl,rfl,ep,by omega,by omega,?_,fun l hl=>q _ (w.add l _) (zaD hl _) (Shd.newL hl (rs.flat _))⟩;refine yak (ybd (show xs.length<=1000 by omega) (show j.toNat<=1000 by omega)) (by decide)
  ·cases hg
 ·cases hg
noncomputable def znx:D->D->Option D | .int i,.int j=>if 0<j then some (.int (i % j)) else none | _,_=>none
noncomputable def zum:D->D->Option D | .int i,.int j=>if 0<j/\j<1073741824 then some (.int (i / j)) else none | _,_=>none
def ztv:OpD X cl (binaryOp .Mod) znx:=by
 intro pins s σ H x y v u Q I rx ry h;obtain ⟨w,d,e,r,rfl,hx,hy,hg,q⟩:=h;unfold znx at hg;split at hg
 ·rename_i i j;split at hg
  ·rename_i hz;cases hg;obtain rfl:=hx.intI;obtain rfl:=hy.intI;exact ztm pins s σ w.H _ _ v u Q I rx ry ⟨i,j,rfl,rfl,hz,q _ w (Grow.refl _) (.int _)⟩
  ·cases hg
 ·cases hg
def zty:OpD X cl (binaryOp .FloorDiv) zum:=by
 intro pins s σ H x y v u Q I rx ry h;obtain ⟨w,d,e,r,rfl,hx,hy,hg,q⟩:=h;unfold zum at hg;split at hg
 ·rename_i i j;split at hg
  ·rename_i hz;cases hg;obtain rfl:=hx.intI;obtain rfl:=hy.intI;exact zqK pins s σ w.H _ _ v u Q I rx ry ⟨i,j,rfl,rfl,hz,q _ w (Grow.refl _) (.int _)⟩
  ·cases hg
 ·cases hg
noncomputable def zpx:D->Option D | .int i=>some (.int (-i)) | _=>none
def zr9:UnD X cl (unaryOp .USub) zpx:=by
 intro pins s σ H x v Q I rx h;obtain ⟨w,d,r,rfl,hx,hg,q⟩:=h;unfold zpx at hg;split at hg
 ·cases hg;rename_i i;obtain rfl:=hx.intI;exact zr8 pins s σ w.H _ v Q I rx ⟨i,rfl,q _ w (Grow.refl _) (.int _)⟩
 ·cases hg
noncomputable def zr1(p:Int->Int->Bool):D->D->Option D | .int i,.int j=>some (.bl (p i j)) | _,_=>none
def zhk(ho:OpR X (compareOp op) (rI0 fun i j=>.bl (p i j))):OpD X cl (compareOp op) (zr1 p):=by
 intro pins s σ H x y v u Q I rx ry h;obtain ⟨w,d,e,r,rfl,hx,hy,hg,q⟩:=h;unfold zr1 at hg;split at hg
 ·cases hg;rename_i i j;obtain rfl:=hx.intI;obtain rfl:=hy.intI;exact ho pins s σ w.H _ _ v u Q I rx ry ⟨i,j,rfl,rfl,q _ w (Grow.refl _) (.bl _)⟩
 ·cases hg
noncomputable def zdp:D->Bool | .non=>true | _=>false
def zny(d e:D):Option D:=if zdp e then some (.bl (zdp d)) else none
def zk1(d e:D):Option D:=if zdp e then some (.bl (!zdp d)) else none
def TopV.non_iff(h:TopV cl w v d):decide (v=.non)=zdp d:=by
 cases h with
 | sh h=>cases h<;>simp [zdp]
 | ow e t=>cases t<;>simp [zdp]
def ziz(h:zdp d=true):d=.non:=by cases d<;>simp [zdp] at h;rfl
def ztw:OpD X cl (compareOp .Is) zny:=by
 intro pins s σ H x y v u Q I rx ry h;obtain ⟨w,d,e,r,rfl,hx,hy,hg,q⟩:=h;unfold zny at hg;split at hg
 ·rename_i hz;cases hg;rw [ziz hz] at hy;obtain rfl:=hy.nonI;refine ztn pins s σ w.H _ _ v u Q I rx ry ⟨rfl,?_⟩;rw [hx.non_iff];exact q _ w (Grow.refl _) (.bl _)
 ·cases hg
def zqP:OpD X cl (compareOp .IsNot) zk1:=by
 intro pins s σ H x y v u Q I rx ry h;obtain ⟨w,d,e,r,rfl,hx,hy,hg,q⟩:=h;unfold zk1 at hg;split at hg
 ·rename_i hz;cases hg;rw [ziz hz] at hy;obtain rfl:=hy.nonI;refine zqJ pins s σ w.H _ _ v u Q I rx ry ⟨rfl,?_⟩;rw [hx.non_iff];exact q _ w (Grow.refl _) (.bl _)
 ·cases hg
noncomputable def zmi:D->D->Option D | .bl a,.bl b=>some (.bl (!decide (a=b))) | _,_=>none
def zqQ:OpD X cl (compareOp .IsNot) zmi:=by
 intro pins s σ H x y v u Q I rx ry h;obtain ⟨w,d,e,r,rfl,hx,hy,hg,q⟩:=h;unfold zmi at hg;split at hg
 ·cases hg;obtain rfl:=hx.blI;obtain rfl:=hy.blI;exact zjd pins s σ w.H _ _ v u Q I rx ry ⟨_,_,rfl,rfl,q _ w (Grow.refl _) (.bl _)⟩
 ·cases hg
def ixD:D->D->Option D
 | .lst l,.int i=>atI l i
 | .tup l,.int i=>atI l i
 | .scr l,.int i=>(atI l i).map D.int
 | _,_=>none
def zjM(r:Shds cl w xs ds)(h:atI ds i=some d):∃v,atI xs i=some v/\Shd cl w v d:=by
 unfold atI at h ⊢;rw [r.length]
 cases e:ixN ds.length i with
 | none=>rw [e] at h;cases h
 | some j =>
  rw [e] at h;exact r.at h
def zwp(hK:X.K=cl.K):IxD X cl ixD:=by
 intro value slice pins s σ H x y v u Q I rx ry h hsub;obtain ⟨w,d,e,r,rfl,hx,hy,hg,q⟩:=h;unfold ixD at hg;split at hg
 ·rename_i l i;obtain ⟨p,xs,rfl,ep,rs⟩:=hx.lstI;obtain rfl:=hy.intI;obtain ⟨z,e1,e2⟩:=zjM rs hg;exact zmG value slice pins s σ w.H _ _ v u Q I rx ry ⟨p,xs,i,z,rfl,rfl,SqL.of ep,e1,q _ w (Grow.refl _) e2⟩ hsub
 ·rename_i l i;obtain ⟨p,xs,rfl,ep,_,rs⟩:=hx.tupI;obtain rfl:=hy.intI;obtain ⟨z,e1,e2⟩:=zjM rs hg;exact zt1 value slice pins s σ w.H _ _ v u Q I rx ry ⟨p,xs,i,z,rfl,rfl,SqT.of ep,e1,q _ w (Grow.refl _) e2⟩ hsub
 ·rename_i l i;obtain ⟨p,rfl,ep⟩:=hx.scrI hK;obtain rfl:=hy.intI
  cases hl:atI l i with
  | none=>rw [hl] at hg;cases hg
  | some k =>
   rw [hl] at hg;cases hg
   have e1:atI (l.map V.int) i=some (.int k):=by
    unfold atI at hl ⊢;rw [yae]
    cases e:ixN l.length i with
    | none=>rw [e] at hl;cases hl
    | some j =>
     rw [e] at hl;have hl':l[j]?=some k:=hl;show (l.map V.int)[j]?=_;rw [yal,hl'];rfl
   exact zmG value slice pins s σ w.H _ _ v u Q I rx ry ⟨p,_,i,_,rfl,rfl,ep,e1,q _ w (Grow.refl _) (.int _)⟩ hsub
 ·cases hg
def zcT:List D->Option D
 | [.lst l]=>some (.int l.length)
 | [.tup l]=>some (.int l.length)
 | [.scr l]=>some (.int l.length)
 | [.str x]=>if zbb x.length then some (.int x.length) else none
 | _=>none
def zuu(hK:X.K=cl.K):zjA X cl (.builtin "len") zcT:=by
 intro pins s σ H xs us Q I r h;obtain ⟨w,ds,d,rfl,hx,hg,q⟩:=h;unfold zcT at hg;split at hg
 ·rename_i l;cases hg
  cases hx with
  | cons h1 h2 =>
   cases h2;obtain ⟨p,ys,rfl,ep,rs⟩:=h1.lstI;refine zdH pins s σ w.H _ us Q I r ⟨p,ys,rfl,.inl (SqL.of ep),?_⟩;rw [rs.length];exact q _ w (Grow.refl _) (.int _)
 ·rename_i l;cases hg
  cases hx with
  | cons h1 h2 =>
   cases h2;obtain ⟨p,ys,rfl,ep,_,rs⟩:=h1.tupI;refine zdH pins s σ w.H _ us Q I r ⟨p,ys,rfl,.inr (SqT.of ep),?_⟩;rw [rs.length];exact q _ w (Grow.refl _) (.int _)
 ·rename_i l;cases hg
  cases hx with
  | cons h1 h2 =>
   cases h2;obtain ⟨p,rfl,ep⟩:=h1.scrI hK;refine zdH pins s σ w.H _ us Q I r ⟨p,l.map V.int,rfl,.inl ep,?_⟩;rw [yae];exact q _ w (Grow.refl _) (.int _)
 ·rename_i x;split at hg
  ·rename_i hz;cases hg
   cases hx with
   | cons h1 h2 =>
    cases h2;obtain rfl:=h1.strI;exact ziR pins s σ w.H _ us Q I r ⟨x,rfl,zbn hz,q _ w (Grow.refl _) (.int _)⟩
  ·cases hg
 ·cases hg
noncomputable def zbI:List D->Option D
 | [.lst l]=>some (.tup l)
 | [.tup l]=>some (.tup l)
 | _=>none
def zoY:zjA X cl (.type "tuple") zbI:=by
 intro pins s σ H xs us Q I r h;obtain ⟨w,ds,d,rfl,hx,hg,q⟩:=h;unfold zbI at hg;split at hg
 ·rename_i l;cases hg
  cases hx with
  | cons h1 h2 =>
   cases h2;obtain ⟨p,ys,rfl,ep,rs⟩:=h1.lstI;exact zeT pins s σ w.H _ us Q I r ⟨p,ys,rfl,.inl ⟨SqL.of ep,fun l hl=>q _ (w.add l _) (zaD hl _) (Shd.newT hl rs)⟩⟩
 ·rename_i l;cases hg
  cases hx with
  | cons h1 h2 =>
   cases h2;obtain ⟨p,ys,rfl,ep,kp,rs⟩:=h1.tupI;exact zeT pins s σ w.H _ us Q I r ⟨p,ys,rfl,.inr ⟨SqT.of ep,q _ w (Grow.refl _) (.tup ep kp rs)⟩⟩
 ·cases hg
noncomputable def zmA:List D->Option D
 | [.lst l]=>some (.lst l)
 | [.tup l]=>some (.lst l)
 | _=>none
def zrA:zuL X cl (.type "list") zmA:=by
 intro pins s σ H xs us Q I r h;obtain ⟨w,ds,d,rfl,hx,hg,q⟩:=h;unfold zmA at hg;split at hg
 ·rename_i l;cases hg
  cases hx with
  | cons h1 h2 =>
   cases h2;obtain ⟨p,ys,rfl,ep,rs⟩:=h1.lstI;exact zfi pins s σ w.H _ us Q I r ⟨p,ys,rfl,.inl (SqL.of ep),fun l hl=>q _ _ w (Grow.refl _) hl (.lst rs)⟩
 ·rename_i l;cases hg
  cases hx with
  | cons h1 h2 =>
   cases h2;obtain ⟨p,ys,rfl,ep,_,rs⟩:=h1.tupI;exact zfi pins s σ w.H _ us Q I r ⟨p,ys,rfl,.inr (SqT.of ep),fun l hl=>q _ _ w (Grow.refl _) hl (.lst rs)⟩
 ·cases hg
noncomputable def zhF:List D->Option (List Bool)
 | []=>some []
 | .bl b::l=>(zhF l).map (b::·)
 | _=>none
def zo5:∀{xs:List V},Shds cl w xs ds->zhF ds=some bs->xs=bs.map V.bl:=by
 induction ds generalizing bs with
 | nil=>intro xs r h;cases r;cases h;rfl
 | cons d ds ih =>
  intro xs r e
  cases r with
  | cons h t =>
   cases d with
   | bl b =>
    cases h;unfold zhF at e
    cases hr:zhF ds with
    | none=>rw [hr] at e;cases e
    | some cs=>rw [hr] at e;cases e;rw [ih t hr];rfl
   | _=>cases e
def znA:List D->Option D
 | [.lst l]=>(zhF l).map fun bs=>.bl (bs.all id)
 | _=>none
def zuv(hc:X.calm=true):zjA X cl (.builtin "all") znA:=by
 intro pins s σ H xs us Q I r h;obtain ⟨w,ds,d,rfl,hx,hg,q⟩:=h;unfold znA at hg;split at hg
 ·rename_i l
  cases hb:zhF l with
  | none=>rw [hb] at hg;cases hg
  | some bs =>
   rw [hb] at hg;cases hg
   cases hx with
   | cons h1 h2 =>
    cases h2;obtain ⟨p,ys,rfl,ep,rs⟩:=h1.lstI;obtain rfl:=zo5 rs hb;exact zju hc pins s σ w.H _ us Q I r ⟨p,bs,rfl,SqL.of ep,q _ w (Grow.refl _) (.bl _)⟩
 ·cases hg
noncomputable def zcu:List D->Option (List Int)
 | []=>some []
 | .int b::l=>(zcu l).map (b::·)
 | _=>none
def ziA:∀{xs:List V},Shds cl w xs ds->zcu ds=some bs->xs=bs.map V.int:=by
 induction ds generalizing bs with
 | nil=>intro xs r h;cases r;cases h;rfl
 | cons d ds ih =>
  intro xs r e
  cases r with
  | cons h t =>
   cases d with
   | int b =>
    cases h;unfold zcu at e
    cases hr:zcu ds with
    | none=>rw [hr] at e;cases e
    | some cs=>rw [hr] at e;cases e;rw [ih t hr];rfl
   | _=>cases e
def zsm:List D->Option D
 | [.lst l]=>(zcu l).bind fun ns=>if decide (ns.length<=1000)&&ns.all (fun n=>decide (0<=n/\n<=1000000)) then some (.int ns.sum) else none
 | _=>none
def zus(hc:X.calm=true):zjA X cl (.builtin "sum") zsm:=by
 intro pins s σ H xs us Q I r h;obtain ⟨w,ds,d,rfl,hx,hg,q⟩:=h;unfold zsm at hg;split at hg
 ·rename_i l
  cases hb:zcu l with
  | none=>rw [hb] at hg;cases hg
  | some ns =>
   rw [hb] at hg;dsimp only [Option.bind] at hg;split at hg
   ·rename_i hz;cases hg;rw [yac,ya1] at hz
    cases hx with
    | cons h1 h2 =>
     cases h2;obtain ⟨p,ys,rfl,ep,rs⟩:=h1.lstI;obtain rfl:=ziA rs hb;exact zoZ hc pins s σ w.H _ us Q I r ⟨p,ns,rfl,SqL.of ep,yar hz.1,fun n hn=>yar (hz.2 n hn),q _ w (Grow.refl _) (.int _)⟩
   ·cases hg
 ·cases hg
end
end S2
namespace L2
open PySem PySem.Spec PyProof.Rows
end L2
namespace S2
open PySem PySem.Spec PyProof.Rows L2
def zc6(g g':D->D->Option D)(f h k:Fe):Fe:=fun ρ S=>(f ρ S).bind fun a S1=>(h ρ S1).bind fun b S2=>match (g a b).bind isB with
 | some true=>(k ρ S2).bind fun c S3=>Out.of (g' b c) S3
 | some false=>.ok (.bl false) S2
 | none=>.bad
section
variable{X:Cx}{cl:Cf}{E:St->XK}{a b c e:Expr}{f h k:Fe}{pos:Pos}
def zjG(hr:∀x y H Q,(∃w d e r,w.H=H/\TopV cl w x d/\TopV cl w y e/\g d e=some r/\∀v w',Grow w w'->Shd cl w' v r->Q v w'.H)->r x y H Q)
  (hr':∀x y H Q,(∃w d e r,w.H=H/\TopV cl w x d/\TopV cl w y e/\g' d e=some r/\∀v w',Grow w w'->Shd cl w' v r->Q v w'.H)->r' x y H Q) (q:tE cl E (zc6 g g' f h k) σ H Q):zlG r r' (tH cl E f) (tH cl E h) (tH cl E k) σ H Q:=by
 obtain ⟨B,w,ρ,S,rfl,R,q⟩:=q;refine ⟨B,w,ρ,S,rfl,R,?_⟩;unfold zc6 at q
 cases hf:f ρ S with
 | bad=>rwa [hf] at q
 | exc c S1=>rwa [hf] at q
 | ok d S1 =>
  rw [hf] at q;intro v w1 R1 F1 h1;refine ⟨B,w1,ρ,S1,rfl,R1,?_⟩;dsimp only [Out.bind] at q
  cases hh:h ρ S1 with
  | bad=>rwa [hh] at q
  | exc c S2=>rw [hh] at q;exact fun w2 R2 F2=>q w2 R2 (F1.trans F2)
  | ok e S2 =>
   rw [hh] at q;intro y w2 R2 F2 h2;dsimp only at q
   cases hg:g d e with
   | none=>rw [hg] at q;exact q.elim
   | some z =>
    rw [hg] at q;dsimp only [Option.bind] at q
    cases hb:isB z with
    | none=>rw [hb] at q;exact q.elim
    | some bb =>
     rw [hb] at q;rw [zdQ hb] at hg;refine hr _ _ _ _ ⟨w2,d,e,_,rfl,(h1.up F2).top R2,h2.top R2,hg,fun v' w3 gr sh=>⟨bb,zh0 sh,?_⟩⟩;have R3:=R2.grow gr
     cases bb with
     | false=>exact zoC (q _ w3 R3 (F1.trans (F2.trans gr.fut)) (.bl _))
     | true =>
      refine zoB ⟨B,w3,ρ,S2,rfl,R3,?_⟩;dsimp only at q
      cases hk:k ρ S2 with
      | bad=>rwa [hk] at q
      | exc c S3=>rw [hk] at q;exact fun w4 R4 F4=>q w4 R4 (F1.trans (F2.trans (gr.fut.trans F4)))
      | ok c S3 =>
       rw [hk] at q;intro z' w4 R4 F4 h4;dsimp only at q
       cases hg':g' e c with
       | none=>rw [hg'] at q;exact q.elim
       | some r2 =>
        rw [hg'] at q;exact hr' _ _ _ _ ⟨w4,e,c,r2,rfl,(h2.up (gr.fut.trans F4)).top R4,h4.top R4,hg',fun v' w5 gr5 sh5=>q v' w5 (R4.grow gr5) (F1.trans (F2.trans (gr.fut.trans (F4.trans gr5.fut)))) sh5⟩
def znQ(ho:OpD X cl (compareOp op) g)(ho':OpD X cl (compareOp op') g')(ha:PE X a (tH cl E f))(hb:PE X b (tH cl E h))(hc:PE X c (tH cl E k))(hm:lastMarks [op,op'] [b,c]=false):PE X (.Compare a [op,op'] [b,c] pos) (tE cl E (zc6 g g' f h k)) :=
 PE.imp (zog ho ho' ha hb hc hm) fun _ _ _ q=>zjG (fun _ _ _ _ z=>z) (fun _ _ _ _ z=>z) q
def znJ(ho:OpD X cl (compareOp op) g)(ho':OpD X cl (compareOp op') g')(ha:PE X a (tH cl E f))(hb:PE X b (tH cl E h))(hc:PE X c (tH cl E k))(hm:lastMarks [op,op'] [b,c]=false):PT X (.Compare a [op,op'] [b,c] pos) (tTr cl E (zc6 g g' f h k)) :=
 PT.imp (zn1 ho ho' ha hb hc hm) fun _ _ _ q=>zjG (fun _ _ _ _ z=>z) (fun _ _ _ _ z=>z) (zjF q)
def zeS{α:Type}(l:List α)(lo hi:Option Int):List α:=(l.drop (HT.sIx l.length 0 lo)).take (HT.sIx l.length l.length hi-HT.sIx l.length 0 lo)
def slD(d:D)(lo hi:Option Int):Option D:=match d with
 | .lst l=>some (.lst (zeS l lo hi))
 | .tup l=>some (.tup (zeS l lo hi))
 | _=>none
def zdr(o:Option Fe)(ρ:Env)(S:Sto):Out (Option Int):=match o with
 | none=>.ok none S
 | some f=>(f ρ S).bind fun d S1=>match d with | .int i=>.ok (some i) S1 | _=>.bad
def eSl(f:Fe)(lo hi:Option Fe):Fe:=fun ρ S=>(f ρ S).bind fun d S1=>(zdr lo ρ S1).bind fun l S2=>(zdr hi ρ S2).bind fun u S3=>Out.of (slD d l u) S3
def ziO(r:Shds cl w xs ds)(lo hi:Option Int):Shds cl w (zpL xs lo hi) (zeS ds lo hi):=by
 unfold zpL zeS;rw [r.length];exact (r.drop _).take _
noncomputable def SlD(X:Cx)(cl:Cf):Prop:=SlR X fun x lo hi H Q=>∃w d r,w.H=H/\TopV cl w x d/\slD d lo hi=some r/\∀v w',Grow w w'->Shd cl w' v r->Q v w'.H
def zvH:SlD X cl:=by
 intro pins s σ H x v vl vu lo hi sl Q I rx hs pl pu h;obtain ⟨w,d,r,rfl,hx,hg,q⟩:=h;unfold slD at hg;split at hg
 ·rename_i l;cases hg;obtain ⟨p,xs,rfl,ep,rs⟩:=hx.lstI;exact zqd pins s σ w.H _ v vl vu lo hi sl Q I rx hs pl pu ⟨p,xs,rfl,SqL.of ep,fun p' hp=>q _ (w.add p' _) (zaD hp _) (Shd.newL hp (ziO rs lo hi))⟩
 ·rename_i l;cases hg;obtain ⟨p,xs,rfl,ep,kp,rs⟩:=hx.tupI
  by_cases hw:HT.sIx xs.length 0 lo=0/\HT.sIx xs.length xs.length hi=xs.length
  ·refine zkM pins s σ w.H _ v vl vu lo hi sl Q I rx hs pl pu ⟨p,xs,rfl,SqT.of ep,hw.1,hw.2,q _ w (Grow.refl _) (.tup ep kp ?_)⟩
   have:zeS l lo hi=l:=by
    unfold zeS;rw [<-rs.length,hw.1,hw.2,List.drop_zero,Nat.sub_zero,ybC (by rw [rs.length];exact yam _)]
   rw [this];exact rs
  ·exact zsA pins s σ w.H _ v vl vu lo hi sl Q I rx hs pl pu ⟨p,xs,rfl,SqT.of ep,hw,fun p' hp=>q _ (w.add p' _) (zaD hp _) (Shd.newT hp (ziO rs lo hi))⟩
 ·cases hg
noncomputable def zuP(cl:Cf)(E:St->XK)(o:Option Fe):TO:=match o with | none=>zlF | some f=>zse (tH cl E f)
def zsI{lo hi:Option Expr}{fl fh:Option Fe}{p2:Pos}(he:PE X e (tH cl E f))(hl:PO X lo (zuP cl E fl))(hu:PO X hi (zuP cl E fh)):PE X (.Subscript e (.Slice lo hi none p2) pos) (tE cl E (eSl f fl fh)):=by
 refine PE.imp (zoa (zvH (cl:=cl)) he hl hu) ?_;rintro σ H Q ⟨B,w,ρ,S,rfl,R,q⟩;refine ⟨B,w,ρ,S,rfl,R,?_⟩;unfold eSl at q
 cases hf:f ρ S with
 | bad=>rwa [hf] at q
 | exc c S1=>rwa [hf] at q
 | ok d S1 =>
  rw [hf] at q;intro v w1 R1 F1 h1;dsimp only [Out.bind] at q
  have last:∀(l u:Option Int) (w3:Wd) (S3:Sto),Rel cl B σ w3 ρ S3->Fut w1 w3->(match Out.of (slD d l u) S3 with
    | .ok d S'=>∀v w',Rel cl B σ w' ρ S'->Fut w w'->Shd cl w' v d->Q v w'.H
    | .exc c S'=>∀w',Rel cl B σ w' ρ S'->Fut w w'->E σ (.ref (cl c)) none w'.H
    | .bad=>False)->∃w d r,w.H=w3.H/\TopV cl w v d/\slD d l u=some r/\∀v w',Grow w w'->Shd cl w' v r->Q v w'.H:=by
   intro l u w3 S3 R3 F3 q3
   cases hg:slD d l u with
   | none=>rw [hg] at q3;exact q3.elim
   | some r =>
    rw [hg] at q3;exact ⟨w3,d,r,rfl,(h1.up F3).top R3,hg,fun v' w' gr sh=>q3 v' w' (R3.grow gr) (F1.trans (F3.trans gr.fut)) sh⟩
  have second:∀(l:Option Int) (w2:Wd) (S2:Sto),Rel cl B σ w2 ρ S2->Fut w1 w2->(match (zdr fh ρ S2).bind fun u S3=>Out.of (slD d l u) S3 with
    | .ok d S'=>∀v w',Rel cl B σ w' ρ S'->Fut w w'->Shd cl w' v d->Q v w'.H
    | .exc c S'=>∀w',Rel cl B σ w' ρ S'->Fut w w'->E σ (.ref (cl c)) none w'.H
    | .bad=>False)->zuP cl E fh σ w2.H fun u H3=>∃w d r,w.H=H3/\TopV cl w v d/\slD d l u=some r/\∀v w',Grow w w'->Shd cl w' v r->Q v w'.H:=by
   intro l w2 S2 R2 F2 q2
   cases fh with
   | none=>exact last l none w2 S2 R2 F2 q2
   | some fh =>
    refine ⟨B,w2,ρ,S2,rfl,R2,?_⟩;unfold zdr at q2;dsimp only at q2
    cases hh:fh ρ S2 with
    | bad=>rwa [hh] at q2
    | exc c S3=>rw [hh] at q2;exact fun w3 R3 F3=>q2 w3 R3 (F1.trans (F2.trans F3))
    | ok dh S3 =>
     rw [hh] at q2;intro y w3 R3 F3 h3;dsimp only [Out.bind] at q2
     cases dh with
     | int i =>
      refine ⟨i,(h3.top R3).intI,?_⟩;exact last l (some i) w3 S3 R3 (F2.trans F3) q2
     | _=>exact q2.elim
  cases fl with
  | none=>exact second none w1 S1 R1 (Fut.refl _) q
  | some fl =>
   refine ⟨B,w1,ρ,S1,rfl,R1,?_⟩;unfold zdr at q;dsimp only at q
   cases hh:fl ρ S1 with
   | bad=>rwa [hh] at q
   | exc c S3=>rw [hh] at q;exact fun w3 R3 F3=>q w3 R3 (F1.trans F3)
   | ok dl S2 =>
    rw [hh] at q;intro y w2 R2 F2 h2;dsimp only [Out.bind] at q
    cases dl with
    | int i =>
     refine ⟨i,(h2.top R2).intI,?_⟩;exact second (some i) w2 S2 R2 F2 q
    | _=>exact q.elim
noncomputable def zfk(T:String)(d:D):Option D :=
 if T = "int" then (match d with | .int _=>some (.bl true) | .bl _=>some (.bl true) | .non=>some (.bl false) | .str _=>some (.bl false) | .tup _=>some (.bl false) | .lst _=>some (.bl false) | _=>none)
 else if T = "bool" then (match d with | .int _=>some (.bl false) | .bl _=>some (.bl true) | .non=>some (.bl false) | .str _=>some (.bl false) | .tup _=>some (.bl false) | .lst _=>some (.bl false) | _=>none)
 else if T = "tuple" then (match d with | .int _=>some (.bl false) | .bl _=>some (.bl false) | .non=>some (.bl false) | .str _=>some (.bl false) | .tup _=>some (.bl true) | .lst _=>some (.bl false) | _=>none)
 else if T = "str" then (match d with | .int _=>some (.bl false) | .bl _=>some (.bl false) | .non=>some (.bl false) | .str _=>some (.bl true) | .tup _=>some (.bl false) | .lst _=>some (.bl false) | _=>none)
 else if T = "list" then (match d with | .int _=>some (.bl false) | .bl _=>some (.bl false) | .non=>some (.bl false) | .str _=>some (.bl false) | .tup _=>some (.bl false) | .lst _=>some (.bl true) | _=>none)
 else none
def zrf{K:PySem.W.Frag}{w:Wd}(h:TopV cl w v d)(hg:zfk T d=some r):∃t b,TyOf K w.H v t/\PySem.W.kitOne K t (.type T)=some b/\r=.bl b:=by
 unfold zfk at hg;split at hg
 ·rename_i hT;subst hT
  split at hg<;>cases hg
  ·obtain rfl:=h.intI;exact ⟨_,_,.int _,by with_unfolding_all rfl,rfl⟩
  ·obtain rfl:=h.blI;exact ⟨_,_,.bl _,by with_unfolding_all rfl,rfl⟩
  ·obtain rfl:=h.nonI;exact ⟨_,_,.non,by with_unfolding_all rfl,rfl⟩
  ·obtain rfl:=h.strI;exact ⟨_,_,.str _,by with_unfolding_all rfl,rfl⟩
  ·obtain ⟨_,_,rfl,e,_⟩:=h.tupI;exact ⟨_,_,.tup e,by with_unfolding_all rfl,rfl⟩
  ·obtain ⟨_,_,rfl,e,_⟩:=h.lstI;exact ⟨_,_,.lst e,by with_unfolding_all rfl,rfl⟩
 split at hg
 ·rename_i hT;subst hT
  split at hg<;>cases hg
  ·obtain rfl:=h.intI;exact ⟨_,_,.int _,by with_unfolding_all rfl,rfl⟩
  ·obtain rfl:=h.blI;exact ⟨_,_,.bl _,by with_unfolding_all rfl,rfl⟩
  ·obtain rfl:=h.nonI;exact ⟨_,_,.non,by with_unfolding_all rfl,rfl⟩
  ·obtain rfl:=h.strI;exact ⟨_,_,.str _,by with_unfolding_all rfl,rfl⟩
  ·obtain ⟨_,_,rfl,e,_⟩:=h.tupI;exact ⟨_,_,.tup e,by with_unfolding_all rfl,rfl⟩
  ·obtain ⟨_,_,rfl,e,_⟩:=h.lstI;exact ⟨_,_,.lst e,by with_unfolding_all rfl,rfl⟩
 split at hg
 ·rename_i hT;subst hT
  split at hg<;>cases hg
  ·obtain rfl:=h.intI;exact ⟨_,_,.int _,by with_unfolding_all rfl,rfl⟩
  ·obtain rfl:=h.blI;exact ⟨_,_,.bl _,by with_unfolding_all rfl,rfl⟩
  ·obtain rfl:=h.nonI;exact ⟨_,_,.non,by with_unfolding_all rfl,rfl⟩
  ·obtain rfl:=h.strI;exact ⟨_,_,.str _,by with_unfolding_all rfl,rfl⟩
  ·obtain ⟨_,_,rfl,e,_⟩:=h.tupI;exact ⟨_,_,.tup e,by with_unfolding_all rfl,rfl⟩
  ·obtain ⟨_,_,rfl,e,_⟩:=h.lstI;exact ⟨_,_,.lst e,by with_unfolding_all rfl,rfl⟩
 split at hg
 ·rename_i hT;subst hT
  split at hg<;>cases hg
  ·obtain rfl:=h.intI;exact ⟨_,_,.int _,by with_unfolding_all rfl,rfl⟩
  ·obtain rfl:=h.blI;exact ⟨_,_,.bl _,by with_unfolding_all rfl,rfl⟩
  ·obtain rfl:=h.nonI;exact ⟨_,_,.non,by with_unfolding_all rfl,rfl⟩
  ·obtain rfl:=h.strI;exact ⟨_,_,.str _,by with_unfolding_all rfl,rfl⟩
  ·obtain ⟨_,_,rfl,e,_⟩:=h.tupI;exact ⟨_,_,.tup e,by with_unfolding_all rfl,rfl⟩
  ·obtain ⟨_,_,rfl,e,_⟩:=h.lstI;exact ⟨_,_,.lst e,by with_unfolding_all rfl,rfl⟩
 split at hg
 ·rename_i hT;subst hT
  split at hg<;>cases hg
  ·obtain rfl:=h.intI;exact ⟨_,_,.int _,by with_unfolding_all rfl,rfl⟩
  ·obtain rfl:=h.blI;exact ⟨_,_,.bl _,by with_unfolding_all rfl,rfl⟩
  ·obtain rfl:=h.nonI;exact ⟨_,_,.non,by with_unfolding_all rfl,rfl⟩
  ·obtain rfl:=h.strI;exact ⟨_,_,.str _,by with_unfolding_all rfl,rfl⟩
  ·obtain ⟨_,_,rfl,e,_⟩:=h.tupI;exact ⟨_,_,.tup e,by with_unfolding_all rfl,rfl⟩
  ·obtain ⟨_,_,rfl,e,_⟩:=h.lstI;exact ⟨_,_,.lst e,by with_unfolding_all rfl,rfl⟩
 ·cases hg
theorem znh:bootBuiltins "isinstance" = some (.builtin "isinstance"):=by decide +kernel
def zqk(hg:Gl X "isinstance")(hm:X.mg "isinstance" = none)(hgT:Gl X x)(hmT:X.mg x=none)(hvT:bootBuiltins x=some (.type T))(hn:x ≠ "__name__")(hdb:(x == ("__debug__":Str))=false)(hp:zcE e=true)(he:PE X e (tH cl E f)) :
  PE X (.Call (.Name "isinstance" p) [e,.Name x p2] [] pos) (tE cl E (eUn (zfk T) f)):=by
 refine PE.imp (zhi zjt hg hm znh (zcr he (zcr (zqH (v:=.ty T) hgT hmT hvT rfl hn hdb) zd6 rfl) (zbN hp)) (he:=zbN hp) (hpl:=rfl)) ?_;rintro σ H Q ⟨B,w,ρ,S,rfl,R,q⟩;refine ⟨B,w,ρ,S,rfl,R,?_⟩;unfold eUn at q
 cases hf:f ρ S with
 | bad=>rwa [hf] at q
 | exc c S1=>rwa [hf] at q
 | ok d S1 =>
  rw [hf] at q;intro v w1 R1 F1 h1;dsimp only [Out.bind] at q
  cases hg:zfk T d with
  | none=>rw [hg] at q;exact q.elim
  | some r =>
   rw [hg] at q;obtain ⟨t,b,h2,h3,rfl⟩:=zrf (K:=X.K) (h1.top R1) hg;exact ⟨v,t,T,b,rfl,h2,h3,q _ w1 R1 F1 (.bl _)⟩
def zaB(f:Fe):Fi:=fun ρ S=>(f ρ S).bind fun d S1=>match d with | .lst l=>.ok l S1 | .tup l=>.ok l S1 | _=>.bad
def zsD(hK:X.K=cl.K)(he:PE X e (tE cl E f)):PI X tg e (tI cl E (zaB f)):=by
 intro pins s σ H R' I q;obtain ⟨B,w,ρ,S,rfl,R,q⟩:=q;unfold zaB at q
 cases hf:f ρ S with
 | bad=>rw [hf] at q;exact q.elim
 | exc c S1 =>
  refine zlJ he pins s σ w.H R' I ⟨B,w,ρ,S,rfl,R,?_⟩;unfold zkr;rw [hf] at q ⊢;exact q
 | ok d S1 =>
  rw [hf] at q;dsimp only [Out.bind] at q
  cases d with
  | lst l =>
   refine zlJ he pins s σ w.H R' I ⟨B,w,ρ,S,rfl,R,?_⟩;unfold zkr;rw [hf];exact q
  | tup l =>
   refine zsC he pins s σ w.H R' I ⟨B,w,ρ,S,rfl,R,?_⟩;unfold zjq;rw [hf];exact q
  | _=>exact q.elim
end
end S2
namespace L2
open PySem PySem.Spec PyProof.Rows
noncomputable abbrev IsT(h:Heap)(T:Addr)(os:List Value):Prop:=h.get? T=some { cls:=.type "tuple",data:=.seq os.toArray }
noncomputable abbrev Stops(h:Heap)(e:Addr):Prop:=∃o,h.get? e=some o/\o.cls=.type "StopIteration"
structure ZSt(a l m i:Nat)(f:Value)(h:Heap):Prop where
 z:IsZip h (a+4) (a+2) (a+3) f
 ti:IsT h (a+2) [.ref a,.ref (a+1)]
 to:∃x y,IsT h (a+3) [x,y]
 i1:h.IsTupleIter a l i
 i2:h.IsTupleIter (a+1) m i
section
variable{prog:Program}{w:World}{A:Around}{E:Z5}{s:Shared}{a l m k:Nat}{us vs:Array Value}
def zjD{h h':Heap}{t:Addr}(p:h.IsTuple t vs)(q:∀o,h.get? t=some o->h'.get? t=some o):h'.IsTuple t vs:=by
 obtain ⟨o,ho,r⟩:=p;exact ⟨o,q o ho,r⟩
theorem zpP{β:Type}{f:Value×Nat->β->Sem (ForInStep β)}{b:β}{Q:β->Shared->Prop}{x0 y0:Value}
  (hf:∀(c l n:Nat) (vs:Array Value) (os:List Value) (s:Shared) (Q:ForInStep β->Shared->Prop),l<c->c<a+3->os.length=2->IsZip s.heap (a+4) (a+2) (a+3) .ellipsis->IsT s.heap (a+3) os->s.heap.IsTupleIter c l k->s.heap.IsTuple l vs->k<=vs.size →
   (∀x h' tk,vs[k]?=some x->IsT h' (a+3) (os.set n x)->h'.IsTupleIter c l (k+1)->h'.objs.size=s.heap.objs.size->(∀(d:Nat) (o:Obj),d≠a+3->d≠c->s.heap.get? d=some o->h'.get? d=some o)->Q (.yield b) { s with heap:=h',toks:=tk }) →
   (k=vs.size->∀h' e tk,(∀(d:Nat) (o:Obj),d≠a+4->d≠c->s.heap.get? d=some o->h'.get? d=some o)->Stops h' e->E (.ref e) { s with heap:=h',toks:=tk })->wpAny (model prog w) A (f (.ref c,n) b) Q E s)
  (hl:l<a) (hm:m<a) (hz:IsZip s.heap (a+4) (a+2) (a+3) .ellipsis) (hO:IsT s.heap (a+3) [x0,y0]) (h1:s.heap.IsTupleIter a l k) (h2:s.heap.IsTupleIter (a+1) m k) (hu:s.heap.IsTuple l us) (hv:s.heap.IsTuple m vs) (hk:k<=us.size) (hk2:k<=vs.size)
  (hQ:∀x y h' tk,us[k]?=some x->vs[k]?=some y->IsT h' (a+3) [x,y]->h'.IsTupleIter a l (k+1)->h'.IsTupleIter (a+1) m (k+1)->h'.objs.size=s.heap.objs.size->(∀(d:Nat) (o:Obj),d≠a->d≠a+1->d≠a+3->s.heap.get? d=some o->h'.get? d=some o)->Q b { s with heap:=h',toks:=tk })
  (hE:(k=us.size\/k=vs.size)->∀h' e tk,(∀(d:Nat) (o:Obj),(d<a\/a+4<d)->s.heap.get? d=some o->h'.get? d=some o)->Stops h' e->E (.ref e) { s with heap:=h',toks:=tk }) :
  wpAny (model prog w) A (forIn [((.ref a:Value),0),(.ref (a+1),1)] b f) Q E s:=by
 rw [ycM];refine yad (hf a l 0 us _ s _ hl (by omega) rfl hz hO h1 hu hk (fun x g tk hx hO1 hI1 hs1 k1=>?_) (fun e h' e' tk k1=>hE (.inl e) h' e' tk fun d o p q=>k1 d o (by omega) (by omega) q));show wpAny _ _ (forIn [((.ref (a+1):Value),1)] b f) _ _ _;rw [ycM];refine yad (hf (a+1) m 1 vs _ _ _ (by omega) (by omega) rfl (k1 _ _ (by omega) (by omega) hz) hO1 (h2.at fun o e=>k1 _ o (by omega) (by omega) e) (zjD hv fun o e=>k1 _ o (by omega) (by omega) e) hk2 (fun y g2 tk2 hy hO2 hI2 hs2 k2=>?_) (fun e h' e' tk' k2=>hE (.inr e) h' e' tk' fun d o p q=>k2 d o (by omega) (by omega) (k1 d o (by omega) (by omega) q)));exact yaj (hQ x y g2 tk2 hx hy hO2 (hI1.at fun o e=>k2 _ o (by omega) (by omega) e) hI2 (hs2.trans hs1) fun d o p1 p2 p3 e=>k2 d o p3 p2 (k1 d o p3 p1 e))
theorem zjB{Q:Z5}(hh:A.handled=none)(Z:ZSt a l m k .none s.heap)(hl:l<a)(hm:m<a)(hu:s.heap.IsTuple l us)(hv:s.heap.IsTuple m vs)(hk:k<=us.size)(hk2:k<=vs.size)
  (hQ:∀x y h' tk,us[k]?=some x->vs[k]?=some y->ZSt a l m (k+1) (rawInt s.heap.objs.size) h'->IsT h' s.heap.objs.size [x,y]->(∀(c:Nat) (o:Obj),(c<a\/a+4<c)->s.heap.get? c=some o->h'.get? c=some o)->Q (.ref s.heap.objs.size) { s with heap:=h',toks:=tk })
  (hE:(k=us.size\/k=vs.size)->∀h' e tk,(∀(c:Nat) (o:Obj),(c<a\/a+4<c)->s.heap.get? c=some o->h'.get? c=some o)->Stops h' e->E (.ref e) { s with heap:=h',toks:=tk }) :
  wpAny (model prog w) A (Builtin.«zip.__next__» ⟨[.ref (a+4)],[]⟩) (fun fin s'=>∃v,fin=.done (.ret v)/\Q v s') E s:=by
 obtain ⟨hz,hI,⟨x0,y0,hO⟩,h1,h2⟩:=Z;show wpAny _ _ (field (.ref (a+4)) 2 >>= _) _ _ _;refine yad (ybA hz rfl (x:=.bool false) rfl ?_);show wpAny _ _ (field (.ref (a+4)) 3 >>= _) _ _ _;refine yad (ybA hz rfl (x:=.ref (a+2)) rfl ?_);refine yad (ybQ hI rfl ?_);show wpAny _ _ (Builtin.SmallTypes.ownedTupleIsFree (.ref (a+4)) >>= _) _ _ _;refine yad ?_;unfold Builtin.SmallTypes.ownedTupleIsFree;refine yad (ybA hz rfl (x:=.none) rfl (yaj ?_));simp only [yb4];refine yad (yc9 ?_);refine yad (ybA hz rfl (x:=.ref (a+3)) rfl ?_);refine yad (ycf hz (by simp) fun g hz₁ hs₁=>?_);replace hz₁:IsZip g (a+4) (a+2) (a+3) .ellipsis:=hz₁;have k₁:∀(c:Nat) (o:Obj),c≠a+4->s.heap.get? c=some o->g.get? c=some o:=fun c o hc e=>hs₁.extBut _ _ hc e
 refine yad (zpP (a:=a) (l:=l) (m:=m) (k:=k) (us:=us) (vs:=vs) (fun c l n vs os s Q hc hb ho hz hO hI hv hk hx he=>?_) hl hm hz₁ (k₁ _ _ (by omega) hO) (h1.at fun o e=>k₁ _ o (by omega) e) (h2.at fun o e=>k₁ _ o (by omega) e) (zjD hu fun o e=>k₁ _ o (by omega) e) (zjD hv fun o e=>k₁ _ o (by omega) e) hk hk2 (fun x y h₂ tk hx hy hO₂ i1 i2 hs₂ k₂=>?_) (fun e h' e' tk k'=>hE e h' e' tk fun c o hc q=>k' c o hc (k₁ c o (by omega) q)))
 ·have D:=ziN (prog:=prog) (w:=w) hh c l (yaz hc) vs;refine yad (wpAny_onRaise ?_);show wpAny _ _ (Builtin.SmallTypes.nextOf (.ref c) >>= _) _ _ _
  rcases Nat.lt_or_eq_of_le hk with hlt | rfl
  ·refine yad (D.item k _ _ _ hlt ⟨hI,hv⟩ fun x h₂ tk₂ px hI₂ hs₂=>yaj ?_);have hO₂:IsT h₂ (a+3) os:=hs₂.extBut _ _ (ya3 hb) hO;refine yad (ybQ hO₂ rfl ?_)
   have h9:os.length<=9:=by omega
   refine yad (wpAny_updateSeq hO₂ rfl ?_ (by simp;exact yak h9 (by decide)) (by simp;exact yak h9 (by decide)));have hs₃:=Heap.SameBut.update h₂ (a+3) (Obj.mapSeq (·.setIfInBounds n x));refine yad (wpAny_letGo (yaj (hx x _ tk₂ px ?_ (hI₂.1.at fun o e=>hs₃.extBut _ _ (yaz hb) e) (hs₃.1.trans hs₂.1) fun d o c1 c2 e=>hs₃.extBut _ _ c1 (hs₂.extBut _ _ c2 e))));show Heap.get? _ (a+3)=_;rw [ycw _ hO₂ rfl];simp [Obj.mapSeq]
  ·refine yad (D.done _ _ _ ⟨hI,hv⟩ fun h₂ e hs₂ hs=>?_);obtain ⟨oe,hoe,hce⟩:=hs;have hz₂:=hs₂ _ _ (show a+4≠c by omega) hz
   have hez:e≠a+4:=fun x=>by subst x;rw [hz₂] at hoe;cases hoe;simp at hce
   exact ycf hz₂ (by simp) fun h₃ _ hs₃=>he rfl h₃ e _ (fun d o c1 c2 q=>hs₃.extBut _ _ c1 (hs₂ _ _ c2 q)) ⟨oe,hs₃.extBut _ _ hez hoe,hce⟩
 ·refine yad (ybQ hO₂ rfl ?_);refine yad (wpAny_newTuple ?_ (hsz:=by show (2:Nat)<=_;decide));have hz₂:IsZip h₂ (a+4) (a+2) (a+3) .ellipsis:=k₂ _ _ (by omega) (by omega) (by omega) hz₁;have hsz:h₂.objs.size=s.heap.objs.size:=hs₂.trans hs₁.1;show wpAny _ _ (Builtin.SmallTypes.ownedTupleHandOut (.ref (a+4)) (.ref h₂.objs.size) >>= _) _ _ _;refine yad ?_;unfold Builtin.SmallTypes.ownedTupleHandOut;refine yad (ycf (yaf _ hz₂) (by simp) fun h₄ hz₄ hs₄=>?_);replace hz₄:IsZip h₄ (a+4) (a+2) (a+3) (rawInt h₂.objs.size):=hz₄;refine ycf hz₄ (by simp) fun h₅ hz₅ hs₅=>?_
  replace hz₅:IsZip h₅ (a+4) (a+2) (a+3) (rawInt h₂.objs.size):=hz₅;have lt:a+4<h₂.objs.size:=yas hz₂;have up:∀(c:Nat) (o:Obj),c≠a+4->h₂.get? c=some o->h₅.get? c=some o:=fun c o c1 e=>hs₅.extBut _ _ c1 (hs₄.extBut _ _ c1 (yaf _ e))
  have hT:IsT h₅ h₂.objs.size [x,y]:=hs₅.extBut _ _ (ya3 lt) (hs₄.extBut _ _ (ya3 lt) (yau _ rfl));rw [hsz] at hz₅ hT;refine yaj ⟨_,rfl,?_⟩;show Q (.ref h₂.objs.size) _;rw [hsz];exact hQ x y h₅ tk hx hy ⟨hz₅,up _ _ (by omega) (k₂ _ _ (by omega) (by omega) (by omega) (k₁ _ _ (by omega) hI)),⟨x,y,up _ _ (by omega) hO₂⟩,i1.at fun o e=>up _ o (by omega) e,i2.at fun o e=>up _ o (by omega) e⟩ hT fun c o hc e=>up c o (by omega) (k₂ c o (by omega) (by omega) (by omega) (k₁ c o (by omega) e))
def zms:Meets (Builtin.«zip.__new__» ⟨[.type "zip",.ref l,.ref m],[]⟩) (fun _ R s=>s.heap.IsTuple l us/\s.heap.IsTuple m vs ∧
   ∀h' n,n=s.heap.objs.size->(∀(c:Nat) (o:Obj),s.heap.get? c=some o->h'.get? c=some o)->ZSt n l m 0 .none h'->R (.ok (.ret (.ref (n+4)))) { s with heap:=h' }) :=
 .of_wp fun prog w A R s h=>by
  obtain ⟨hp,g,d,tk,os⟩:=s;obtain ⟨hl1,hl2,h⟩:=h;have hsub:=sub_zip;have hL1:Heap.IsTuple (Shared.heap ⟨hp,g,d,tk,os⟩) l us:=hl1;have hL2:Heap.IsTuple (Shared.heap ⟨hp.push { cls:=.type "tuple_iterator",data:=.fields #[.ref l,.int 0 0] },g,d,tk,os⟩) m vs:=zjD hl2 fun o e=>yaf _ e
  wp_walk using ybJ hL1,ybJ hL2
  refine ⟨_,rfl,?_⟩;have p {h:Heap} {o':Obj} {a:Addr} {o:Obj} (e:h.get? a=some o):(h.push o').get? a=some o:=yaf _ e
  have u:∀{h:Heap} {o:Obj} {a:Addr},a=h.objs.size->o.isFreed=false->(h.push o).get? a=some o:=fun e ho=>by rw [e];exact yau _ ho
  simp only [yaZ];exact h _ _ rfl (fun c o e=>p (p (p (p (p e))))) ⟨u (by simp only [yaZ]) rfl,p (p (u (by simp only [yaZ]) rfl)),⟨_,_,p (u (by simp only [yaZ]) rfl)⟩,⟨_,p (p (p (p (u rfl rfl)))),rfl,rfl⟩,⟨_,p (p (p (u (by simp only [yaZ]) rfl))),rfl,rfl⟩⟩
end
noncomputable def zFp(a:Nat):List Addr:=(List.range 5).map (a+·)
theorem zeV{a b:Nat}:b∈zFp a↔a<=b/\b<a+5:=by
 unfold zFp;rw [yat];exact ⟨fun ⟨j,hj,e⟩=>by rw [yaI] at hj;have e:a+j=b:=e;omega,fun ⟨h1,h2⟩=>⟨b-a,yaI.mpr (by omega),by show a+(b-a)=b;omega⟩⟩
theorem zi1{a b:Nat}(h:b ∉ zFp a):b<a\/a+4<b:=by rw [zeV] at h;omega
theorem ZSt.keep{a l m i:Nat}{f:Value}{h h':Heap}(Z:ZSt a l m i f h)(k:∀(c:Nat) (o:Obj),a<=c->c<a+5->h.get? c=some o->h'.get? c=some o):ZSt a l m i f h' :=
 ⟨k _ _ (by omega) (by omega) Z.z,k _ _ (by omega) (by omega) Z.ti,let ⟨x,y,e⟩:=Z.to;⟨x,y,k _ _ (by omega) (by omega) e⟩,Z.i1.at fun o e=>k _ o (by omega) (by omega) e,Z.i2.at fun o e=>k _ o (by omega) (by omega) e⟩
section
variable{X:Cx}{pins:Z3}{σ:St}{H:Hp}{s:Shared}
noncomputable def ItZ(l m:Addr):It :=
 ⟨fun i H=>∃xs ys,H l=some (.tup xs)/\H m=some (.tup ys)/\i<xs.length/\i<ys.length,
  fun i H v H'=>∃t x y xs ys,v=.ref t/\H t=none/\H'=upd H t (.tup [x,y])/\H l=some (.tup xs)/\H m=some (.tup ys)/\xs[i]?=some x/\ys[i]?=some y,
  fun i H=>∃xs ys,H l=some (.tup xs)/\H m=some (.tup ys)/\i<=xs.length/\i<=ys.length/\(i=xs.length\/i=ys.length)⟩
def zpQ{fp:List Addr}{T:Addr}{h2:Heap}{tk:Nat}{us:List Value}{ys:List V}(I:Inv X pins σ H s)(hf:∀b∈fp,znv X pins H b)(hT:T=s.heap.objs.size)(te:IsT h2 T us)
  (k:∀b o,b ∉ fp->s.heap.get? b=some o->h2.get? b=some o) (r:Vals ys us) (h9:us.length<=9):Inv X pins σ (upd H T (.tup ys)) { s with heap:=h2,toks:=tk }/\H T=none:=by
 have fr:H T=none:=by rw [hT];exact I.hok.fresh (yam _)
 refine ⟨?_,fr⟩;have I1:Inv X pins σ H { s with heap:=h2,toks:=tk }:=I.turnedL (ch:=fp) (fun b o hb q=>k b o hb q) hf;refine I1.track fr (by rw [hT];exact I.sz) (by rw [hT];exact ya3 I.lt) (fun z c q=>?_) (fun p hp=>?_) ?_
 ·obtain ⟨v,cq⟩:=I.cell z c q;rw [hT];exact yaz cq.lt
 ·rw [hT];exact yaz (yas (I.pin p hp).1)
 ·exact ⟨yak (r.length ▸ h9) (by decide),us,r,_,te,rfl,_,rfl,rfl⟩
theorem znF{P:Program}{w:World}{K:PySem.W.Frag}{elts:List Expr}{x1:Nat}{pos:Pos}{a l m:Nat}(hl:l<a)(hm:m<a) :
  Turn P w K (.Tuple elts x1 pos) (ItZ l m) (zFp a) (a+4) (fun i h=>ZSt a l m i .none h) where
 mem:=zeV.mpr (by omega)
 obj:=fun i h st b hb=>by
  obtain ⟨hz,hI,⟨x,y,hO⟩,⟨o1,e1,_,d1⟩,⟨o2,e2,_,d2⟩⟩:=st;obtain ⟨h1,h2⟩:=zeV.mp hb;obtain ⟨j,rfl⟩:∃j,b=a+j:=⟨b-a,(Nat.add_sub_cancel' h1).symm⟩
  match j,h2 with
  | 0,_=>exact ⟨_,e1,fun v e=>by rw [d1] at e;cases e⟩
  | 1,_=>exact ⟨_,e2,fun v e=>by rw [d2] at e;cases e⟩
  | 2,_=>exact ⟨_,hI,fun v e=>by cases e⟩
  | 3,_=>exact ⟨_,hO,fun v e=>by cases e⟩
  | 4,_=>exact ⟨_,hz,fun v e=>by cases e⟩
  | j+5,h=>omega
 keep:=fun i h h' st k=>st.keep fun c o c1 c2 e=>k _ (zeV.mpr ⟨c1,c2⟩) _ e
 item:=by
  intro X hP hw hK hc i pins s σ H E I hf st hg;subst hP hw hK;obtain ⟨xs,ys,g1,g2,hi,hj⟩:=hg;obtain ⟨us,ru,t1,_⟩:=I.tuple (SqT.of g1);obtain ⟨vs,rv,t2,_⟩:=I.tuple (SqT.of g2);have hT:s.TypeIs (.ref (a+4)) "zip":=⟨_,st.z,rfl⟩;unfold pyNext
  refine yad (wpAny_attempt (ya8 (name:=Str.ofString "__next__") hT ycO (ybm ycO hT F.entry_zip_next
   (zjB (A:=X.A.in1) (I.ok.hd hc) st hl hm t1 t2 (by rw [yag,<-ru.length];exact yb7 hi) (by rw [yag,<-rv.length];exact yb7 hj) (fun x y h' tk hx hy a1 a4 a5=>yaj ?_)
    (fun e=>by rw [yag,yag,<-ru.length,<-rv.length] at e;omega)) (F.args_zip_next_1 _))))
  have ltz:a+4<s.heap.objs.size:=yas st.z;refine ⟨_,rfl,wpAny_letOwnedTupleGo_zip a1.z fun h2' hz2 sb=>?_⟩;have kb:∀(c:Nat) (o:Obj),c≠a+4->h'.get? c=some o->h2'.get? c=some o:=fun c o hc e=>(sb.2 c hc).trans e
  obtain ⟨x',hx1,hx2⟩:=ru.get (yaa hi);obtain ⟨y',hy1,hy2⟩:=rv.get (yaa hj);rw [List.getElem?_toArray,hx1] at hx;cases hx;rw [List.getElem?_toArray,hy1] at hy;cases hy;obtain ⟨I2,fr⟩:=zpQ (tk:=tk) (h2:=h2') I hf rfl (kb _ _ (ya3 ltz) a4) (fun b o hb q=>kb b o (by have:=zi1 hb;omega) (a5 b o (zi1 hb) q)) (.cons hx2 (.cons hy2 .nil)) (by simp);refine ⟨.ref s.heap.objs.size,_,I2,rfl,⟨_,_,_,xs,ys,rfl,fr,rfl,g1,g2,yaa hi,yaa hj⟩,⟨hz2,kb _ _ (by omega) a1.ti,let ⟨x,y,e⟩:=a1.to;⟨x,y,kb _ _ (by omega) e⟩,a1.i1.at fun o e=>kb _ o (by omega) e,a1.i2.at fun o e=>kb _ o (by omega) e⟩,fun b hb=>?_⟩;rw [zau (fun e=>by have:=(zeV.mp (e ▸ hb)).2;omega)];exact (hf b hb).1
 done:=by
  intro X hP hw hK hc i pins s σ H E I hf st hg;subst hP hw hK;obtain ⟨xs,ys,g1,g2,h1,h2,hi⟩:=hg;obtain ⟨us,ru,t1,_⟩:=I.tuple (SqT.of g1);obtain ⟨vs,rv,t2,_⟩:=I.tuple (SqT.of g2);have hT:s.TypeIs (.ref (a+4)) "zip":=⟨_,st.z,rfl⟩;unfold pyNext
  refine yad (wpAny_attempt (ya8 (name:=Str.ofString "__next__") hT ycO (ybm ycO hT F.entry_zip_next
   (zjB (A:=X.A.in1) (I.ok.hd hc) st hl hm t1 t2 (by rw [yag,<-ru.length];exact h1) (by rw [yag,<-rv.length];exact h2) (fun x y h' tk hx hy=>by
     have e1:=(Array.getElem?_eq_some_iff.mp hx).1;have e2:=(Array.getElem?_eq_some_iff.mp hy).1;rw [yag,<-ru.length] at e1;rw [yag,<-rv.length] at e2
     omega) (fun _ h' e tk hk he'=>?_)) (F.args_zip_next_1 _))))
  obtain ⟨o,ho,hcl⟩:=he';refine yad (ycz (T:="StopIteration") (b:=true) ⟨o,ho,hcl⟩ isSubtype_stop ?_);exact yaj ⟨rfl,I.turnedL (ch:=zFp a) (fun b o hb q=>hk b o (zi1 hb) q) hf⟩
 self:=fun _ _ _ _ _ st h=>wpAny_pyIter_zip st.z h
theorem zo0:bootBuiltins "zip" = some (.type "zip"):=by decide +kernel
def zr6(I1:Inv X pins σ H1 s1)(g1:H1 l=some (.tup xs))(g2:H1 m=some (.tup ys))(q:R (ItZ l m) H1) :
  wpAny (model X.prog X.w) X.A (call (.type "zip") [.ref l,.ref m]) (fun v s2=>wpAny (model X.prog X.w) X.A (pyIter v) (PIE X pins σ (.Tuple elts x1 tp) R) X.xe s2) X.xe s1:=by
 obtain ⟨us,ru,t1,_⟩:=I1.tuple (SqT.of g1);obtain ⟨vs,rv,t2,_⟩:=I1.tuple (SqT.of g2);refine callType_new F.called_zip (by decide) (F.typeCall_zip_2 _ _) (F.newCall_zip_2 _ _) (fun o=>F.args_object_init_3 o _ _) F.entry_zip_new zms ⟨t1,t2,fun h' n hn hk Z=>?_⟩;refine ⟨⟨_,Z.z,rfl⟩,wpAny_pyIter_zip Z.z ?_⟩;refine ⟨n+4,zFp n,_,_,H1,rfl,I1.kept (t':=s1.toks) hk,znF ?_ ?_,Z,fun c hb=>?_,q⟩
 ·obtain ⟨o,ho,_⟩:=t1;rw [hn];exact yas ho
 ·obtain ⟨o,ho,_⟩:=t2;rw [hn];exact yas ho
 ·have hc:s1.heap.objs.size<=c:=hn ▸ (zeV.mp hb).1;exact I1.fpOk hc (I1.hok.fresh hc)
end
end L2
namespace S2
open PySem PySem.Spec PyProof.Rows L2
section
variable{X:Cx}{cl:Cf}{E:St->XK}{e tg:Expr}{f:Fe}{own:Bool}{pos pos':Pos}
noncomputable def zrZ:List D->Option D | [.int i,.int j]=>some (.int (if j > i then j else i)) | _=>none
noncomputable def zzM:List D->Option D | [.int i,.int j]=>some (.int (if j<i then j else i)) | _=>none
def zut(hc:X.calm=true):zjA X cl (.builtin "max") zrZ:=by
 intro pins s σ H xs us Q I r h;obtain ⟨w,ds,d,rfl,hx,hg,q⟩:=h;unfold zrZ at hg;split at hg
 ·rename_i i j;cases hg
  cases hx with
  | cons h1 h2=>cases h2 with
   | cons h2 h3 =>
    cases h3;obtain rfl:=h1.intI;obtain rfl:=h2.intI;exact zng hc pins s σ w.H _ us Q I r ⟨i,j,rfl,q _ w (Grow.refl _) (.int _)⟩
 ·cases hg
noncomputable def zge(l:List D):List D:=l.zipIdx.map fun p=>.tup [.int p.2,p.1]
def ziJ(l:List D):(zge l).length=l.length:=by unfold zge;rw [yae,List.length_zipIdx]
def ziK{l:List D}{i:Nat}{d:D}(h:(zge l)[i]?=some d):∃y,l[i]?=some y/\d=.tup [.int i,y]:=by
 unfold zge at h;rw [yal,List.getElem?_zipIdx] at h
 cases hl:l[i]? with
 | none=>rw [hl] at h;cases h
 | some y =>
  rw [hl] at h;refine ⟨y,rfl,?_⟩;have:=Option.some.inj h;rw [<-this];simp
def zm2(f:Fe):Fi:=fun ρ S=>(zan [f] ρ S).bind fun ds S1=>match ds with | [.tup l]=>.ok (zge l) S1 | _=>.bad
theorem zt5(hS:∀w',Fut w w'->S w'.H a xs)(r:Shds cl w xs l):ItOk cl w (ItE S a) (zge l):=by
 have hl:=r.length;have hel:=ziJ l;refine ⟨fun w1 F1 i hi=>⟨xs,xs[i]'(by omega),hS w1 F1,yaa (by omega)⟩,fun w1 F1=>⟨xs,hS w1 F1,by omega⟩,fun w1 F1 i d x H1 hd y=>?_⟩;obtain ⟨t,v,rfl,ht,rfl,hy⟩:=y;obtain ⟨z,hz,rfl⟩:=ziK hd;have hv:=hy xs (hS w1 F1);obtain ⟨d',e1,e2⟩:=r.get hv;rw [hz] at e1;cases e1;exact ⟨w1.add t _,rfl,zaD ht _,Shd.newT ht (.cons (.int _) (.cons (e2.up F1) .nil))⟩
def zqf(hg:Gl X "enumerate")(hm:X.mg "enumerate" = none)(ha:PA X [e] (tAs cl E [f]))(hs:starEach [e] X.env=[(false,eval e X.env)]):PI X (.Tuple es kk tp) (.Call (.Name "enumerate" p) [e] [] pos) (tI cl E (zm2 f)):=by
 intro pins s σ H R' I q;obtain ⟨B,w,ρ,S,rfl,R,q⟩:=q;unfold zm2 at q;have T:=zn9 (elts:=es) (x1:=kk) (tp:=tp) (p:=p) (pos:=pos) hg hm ha rfl hs pins s σ w.H R' I
 cases hf:zan [f] ρ S with
 | bad=>rw [hf] at q;exact q.elim
 | exc c S1 =>
  refine T ⟨B,w,ρ,S,rfl,R,?_⟩;rw [hf] at q ⊢;exact q
 | ok ds S1 =>
  rw [hf] at q;dsimp only [Out.bind] at q;split at q
  ·rename_i l' S' hm';split at hm'
   ·rename_i l;cases hm';refine T ⟨B,w,ρ,S,rfl,R,?_⟩;rw [hf];intro vs w' R2 F2 sh
    cases sh with
    | cons h1 h2 =>
     cases h2
     cases h1 with
     | tup ep k r=>exact ⟨_,rfl,⟨_,SqT.of ep⟩,q _ w' R2 F2 (zt5 (fun w1 F1=>SqT.of (F1.keep _ _ ep k).1) r)⟩
   ·cases hm'
  ·rename_i hm';split at hm'<;>cases hm'
  ·exact q.elim
noncomputable def zhJ:List D->List D->List D
 | x::xs,y::ys=>.tup [x,y]::zhJ xs ys
 | _,_=>[]
theorem zfm:∀(xs ys:List D),(zhJ xs ys).length=min xs.length ys.length
 | [],_=>by simp [zhJ]
 | _::_,[]=>by simp [zhJ]
 | _::xs,_::ys=>by simp [zhJ,zfm xs ys]
theorem zgV:∀{xs ys:List D} {i:Nat} {d:D},(zhJ xs ys)[i]?=some d->∃x y,xs[i]?=some x/\ys[i]?=some y/\d=.tup [x,y]
 | [],_,_,_,h=>by simp [zhJ] at h
 | _::_,[],_,_,h=>by simp [zhJ] at h
 | x::xs,y::ys,0,d,h=>by
  simp only [zhJ,List.getElem?_cons_zero,Option.some.injEq] at h;exact ⟨x,y,rfl,rfl,h.symm⟩
 | x::xs,y::ys,i+1,d,h=>by
  simp only [zhJ,List.getElem?_cons_succ] at h ⊢;exact zgV h
def zr0(f g:Fe):Fi:=fun ρ S=>(zan [f,g] ρ S).bind fun ds S1=>match ds with | [.tup l,.tup k]=>.ok (zhJ l k) S1 | _=>.bad
theorem zt3(h1:∀w',Fut w w'->w'.H l1=some (.tup xs))(h2:∀w',Fut w w'->w'.H l2=some (.tup ys))(r1:Shds cl w xs ds)(r2:Shds cl w ys es):ItOk cl w (ItZ l1 l2) (zhJ ds es):=by
 have e1:=r1.length;have e2:=r2.length;have el:=zfm ds es;refine ⟨fun w1 F1 i hi=>⟨xs,ys,h1 w1 F1,h2 w1 F1,by omega,by omega⟩,fun w1 F1=>⟨xs,ys,h1 w1 F1,h2 w1 F1,by omega,by omega,by omega⟩,fun w1 F1 i d x H1 hd y=>?_⟩;obtain ⟨t,v1,v2,xs',ys',rfl,ht,rfl,g1,g2,hx,hy⟩:=y;obtain ⟨z1,z2,hz1,hz2,rfl⟩:=zgV hd;cases (h1 w1 F1).symm.trans g1;cases (h2 w1 F1).symm.trans g2;obtain ⟨d1,q1,s1⟩:=r1.get hx;obtain ⟨d2,q2,s2⟩:=r2.get hy;rw [hz1] at q1;cases q1;rw [hz2] at q2;cases q2;exact ⟨w1.add t _,rfl,zaD ht _,Shd.newT ht (.cons (s1.up F1) (.cons (s2.up F1) .nil))⟩
def zsB(hg:Gl X "zip")(hm:X.mg "zip" = none)(ha:PA X [a,e] (tAs cl E [fa,f]))(hs:starEach [a,e] X.env=(false,eval a X.env)::starEach [e] X.env)(hs2:(backTo pos (starEach [e] X.env)).any (·.1)=false):PI X (.Tuple es kk tp) (.Call (.Name "zip" p) [a,e] [] pos) (tI cl E (zr0 fa f)):=by
 intro pins s σ H R' I q;refine Call_ (zfT I hg hm L2.zo0 (ybi (thn (ha pos pins s σ H (fun vs H1=>∃l m xs ys,vs=[.ref l,.ref m]/\H1 l=some (.tup xs)/\H1 m=some (.tup ys)/\R' (ItZ l m) H1) I ?_) fun us s1 ⟨vs,H1,I1,r1,q1⟩=>?_) hs hs2))
 ·obtain ⟨B,w,ρ,S,rfl,R,q⟩:=q;refine ⟨B,w,ρ,S,rfl,R,?_⟩;dsimp only [zr0] at q
  cases hf:zan [fa,f] ρ S with
  | bad=>rw [hf] at q;exact q.elim
  | exc c S1=>rwa [hf] at q
  | ok ds S1 =>
   rw [hf] at q;dsimp only [Out.bind] at q;intro vs w' R2 F2 sh
   have hz:(∃l k,ds=[.tup l,.tup k])\/(match ds with | [.tup l,.tup k]=>Out.ok (zhJ l k) S1 | _=>.bad)=.bad:=by
    split
    ·exact .inl ⟨_,_,rfl⟩
    ·exact .inr rfl
   rcases hz with ⟨l,k,rfl⟩ | e
   ·cases sh with
    | cons h1 h2 =>
     cases h2 with
     | cons h2 h3 =>
      cases h3
      cases h1 with
      | tup e1 k1 r1 =>
       cases h2 with
       | tup e2 k2 r2 =>
        exact ⟨_,_,_,_,rfl,(Fut.refl w').keep _ _ e1 k1 |>.1,(Fut.refl w').keep _ _ e2 k2 |>.1,q _ w' R2 F2 (zt3 (fun w1 F1=>(F1.keep _ _ e1 k1).1) (fun w1 F1=>(F1.keep _ _ e2 k2).1) r1 r2)⟩
   ·rw [e] at q;exact q.elim
 ·obtain ⟨l,m,xs,ys,rfl,g1,g2,q⟩:=q1
  cases r1 with
  | cons a1 r1 =>
   cases r1 with
   | cons a2 r1=>cases r1;cases a1;cases a2;exact zr6 I1 g1 g2 q
end
section
variable{X:Cx}{cl:Cf}{E:St->XK}{e:Expr}{f:Fe}{pos':Pos}
def zd8(l:List D)(d:D):Option D:=if d.fit 8&&D.fits 8 l&&decide (l.length<=1000000)&&zj7 d l then some (.int ((l.findIdx (zfq · d):Nat):Int)) else none
theorem ze1{s:Shared}{d:D}:∀{its:List Value} {ds:List D} {as:List Addr},ReadsAll s.heap its (D.pys ds) as->D.fits 8 ds=true->∀(m:Nat) (hm:m<its.length),∃e,ds[m]?=some e/\(SeqAt.readOf s.heap its[m]).eqv d.py=zfq e d
 | [],_,_,_,_,m,hm=>by simp at hm
 | _::_,[],_,h,_,_,_=>by cases h
 | v::its,e::ds,_,h,f,m,hm=>by
  simp only [D.fits,yac] at f
  cases h with
  | cons h1 h2 =>
   cases m with
   | zero=>exact ⟨e,rfl,by show (SeqAt.readOf s.heap v).eqv d.py=_;rw [zlX (D.lay f.1).1 h1];rfl⟩
   | succ m =>
    obtain ⟨e',h3,h4⟩:=ze1 h2 f.2 m (by simpa using hm);exact ⟨e',by simpa using h3,by simpa using h4⟩
theorem zgy{s:Shared}:∀{its:List Value} {ds:List D} {as:List Addr},ReadsAll s.heap its (D.pys ds) as->its.length=ds.length
 | [],[],_,_=>rfl
 | [],_::_,_,h=>by cases h
 | _::_,[],_,h=>by cases h
 | _::its,_::ds,_,h=>by
  cases h with
  | cons _ h2=>rw [yai,yai,zgy h2]
end
noncomputable def zAn(g:Str->Str->Option Bool)(C:Str):D->Option D
 | .exc c=>(g c C).map .bl
 | _=>none
noncomputable def zyP(cl:Cf)(C:Str):Value:=if C = "ValueError" then .type "ValueError" else .ref (cl C)
section
variable{X:Cx}{cl:Cf}{E:St->XK}{own:Bool}{e:Expr}{f fe:Fe}{pos pos':Pos}
theorem zr2:bootBuiltins "ValueError" = some (.type "ValueError"):=by decide +kernel
end
end S2
namespace PySem.F
end PySem.F
namespace L2
open PySem PySem.Spec PyProof.Rows
end L2
namespace PySem.F
end PySem.F
namespace L2
open PySem PySem.Spec PyProof.Rows
end L2
namespace S2
open PySem PySem.Spec PyProof.Rows L2
noncomputable def zaR(f:Str)(o:Bool)(d:D):List (Str×Bool×D)->List (Str×Bool×D)
 | []=>[(f,o,d)]
 | (g,x)::r=>if g=f then (g,o,d)::r else (g,x)::zaR f o d r
def Ob.put(ob:Ob)(f:Str)(o:Bool)(d:D):Ob:=⟨ob.cls,zaR f o d ob.fs⟩
section
variable{cl:Cf}{w:Wd}{n:Nat}
def zd0.len(h:zd0 cl w n fs gs):fs.length=gs.length:=Paired.length h
def zd0.look(h:zd0 cl w n fs gs)(e:gs.lookup f=some (o,d)):∃v,fs.lookup f=some v/\zjz cl w (.fld n f) o v d:=by
 induction h with
 | nil=>cases e
 | @cons p q l1 l2 h t ih =>
  obtain ⟨h1,h2⟩:=h;obtain ⟨g,v⟩:=p;obtain ⟨g',o',d'⟩:=q;have h1':g=g':=h1;subst h1';rw [yaE] at e ⊢
  cases hb:f == g with
  | true =>
   rw [hb] at e;cases e;have:=eq_of_beq hb;subst this;exact ⟨v,rfl,h2⟩
  | false =>
   rw [hb] at e;exact ih e
def zd0.miss(h:zd0 cl w n fs gs)(e:gs.lookup f=none):fs.lookup f=none:=by
 induction h with
 | nil=>rfl
 | @cons p q l1 l2 h t ih =>
  obtain ⟨h1,h2⟩:=h;obtain ⟨g,v⟩:=p;obtain ⟨g',o',d'⟩:=q;have h1':g=g':=h1;subst h1';rw [yaE] at e ⊢
  cases hb:f == g with
  | true=>rw [hb] at e;cases e
  | false=>rw [hb] at e;exact ih e
def zd0.put(h:zd0 cl w n fs gs)(hy:zjz cl w (.fld n f) o y d):zd0 cl w n (zeg f y fs) (zaR f o d gs):=by
 induction h with
 | nil=>exact .cons ⟨rfl,hy⟩ .nil
 | @cons p q l1 l2 h t ih =>
  obtain ⟨h1,h2⟩:=h;obtain ⟨g,v⟩:=p;obtain ⟨g',o',d'⟩:=q;have h1':g=g':=h1;subst h1';show zd0 cl w n (if g=f then (g,y)::l1 else (g,v)::zeg f y l1) (if g=f then (g,o,d)::l2 else (g,o',d')::zaR f o d l2)
  by_cases hg:g=f
  ·subst hg;rw [if_pos rfl,if_pos rfl];exact .cons ⟨rfl,hy⟩ t
  ·rw [if_neg hg,if_neg hg];exact .cons ⟨rfl,h2⟩ ih
def zd0.keepBut(f:Fut w w')(k:∀a o g,g≠x->w.H a=some o->w.ow a=some (.fld n g)->w'.H a=some o/\w'.ow a=some (.fld n g))(h:zd0 cl w n fs gs)(hn:∀q∈gs,q.1=x->q.2.1=false):zd0 cl w' n fs gs:=by
 induction h with
 | nil=>exact .nil
 | @cons p q l1 l2 h t ih =>
  obtain ⟨h1,h2⟩:=h;refine .cons ⟨h1,?_⟩ (ih fun q hq=>hn q (yao _ hq))
  by_cases hx:q.1=x
  ·have ho:=hn q yaw hx;rw [ho] at h2 ⊢
   rcases h2 with ⟨_,h2⟩ | ⟨e,_⟩
   ·exact .inl ⟨rfl,Shd.up f h2⟩
   ·cases e
  ·exact h2.keep f fun a o ha hr=>k a o q.1 hx ha hr
def zd0.keepF(f:Fut w w')(k:∀a o g,w.H a=some o->w.ow a=some (.fld n g)->w'.H a=some o/\w'.ow a=some (.fld n g))(h:zd0 cl w n fs gs):zd0 cl w' n fs gs:=by
 induction h with
 | nil=>exact .nil
 | @cons p q l1 l2 h t ih=>exact .cons ⟨h.1,h.2.keep f fun a o ha hr=>k a o q.1 ha hr⟩ ih
variable{B:Base}{σ:St}{ρ:Env}{S:Sto}
def World'.atObj(W:World' cl B w S)(h:S[n]?=some ob)(e:w.mu[n]?=some a):zuK cl w n a ob:=by
 obtain ⟨a',e',x⟩:=W.obj n ob h;rw [e] at e';cases e';exact x
def zjj(h:(S.set n ob)[m]?=some ob'):(m=n/\ob'=ob)\/(m≠n/\S[m]?=some ob'):=by
 by_cases e:n=m
 ·subst e
  have hlt:n<S.length:=by
   have:=(yan.mp h).1;rwa [yaR] at this
  rw [yaG hlt] at h;cases h;exact .inl ⟨rfl,rfl⟩
 ·rw [yaQ e] at h;exact .inr ⟨fun z=>e z.symm,h⟩
def Rel.setf(R:Rel cl B σ w ρ S)(hn:S[n]?=some ob)(hmu:w.mu[n]?=some a)(how:w.ow a=some (.obj n))(hH:w.H a=some (.ins (cl ob.cls) dx fs))(hF:zd0 cl w n fs ob.fs)(hy:Shd cl w y d) :
  Rel cl B σ (w.mut a (.ins (cl ob.cls) dx (zeg f y fs))) ρ (S.set n (ob.put f false d))/\Fut w (w.mut a (.ins (cl ob.cls) dx (zeg f y fs))):=by
 have ff:=zei (w:=w) (p:=a) (o:=.ins (cl ob.cls) dx (zeg f y fs)) (by rw [how];exact yaU _)
 have kp:∀b u,w.H b=some u->w.ow b≠some (.obj n)->(w.mut a (.ins (cl ob.cls) dx (zeg f y fs))).H b=some u/\(w.mut a (.ins (cl ob.cls) dx (zeg f y fs))).ow b=w.ow b:=fun b u hb hne=>⟨by
  show upd w.H a _ b=_
  rw [zau (fun z=>hne (by rw [z];exact how))];exact hb,rfl⟩
 have hB:B.Fr a=none:=(R.wd.own a _ how).elim (fun z=>by cases z) fun z=>z
 refine ⟨⟨⟨fun b u h=>?_,R.wd.own,by rw [yaR];exact R.wd.len,fun m ob' h=>?_⟩,R.len,fun i o e h=>?_⟩,ff⟩
 ·refine ⟨?_,(R.wd.fr b u h).2⟩;show upd w.H a _ b=_;rw [zau (fun z=>by rw [z,hB] at h;cases h)];exact (R.wd.fr b u h).1
 ·rcases zjj h with ⟨rfl,rfl⟩ | ⟨hne,h⟩
  ·refine ⟨a,hmu,how,dx,_,zaM,?_⟩;exact zd0.put (hF.keepF ff fun b u g hb hg=>⟨(kp b u hb (by rw [hg];exact fun z=>by cases z)).1,hg⟩) (.inl ⟨rfl,hy.up ff⟩)
  ·obtain ⟨b,e,x⟩:=R.wd.obj m ob' h;exact ⟨b,e,x.keep ff fun b u hb hm=>kp b u hb fun z=>by rw [z] at hm;exact hne hm.symm⟩
 ·obtain ⟨v,e1,x⟩:=R.slots i o e h;exact ⟨v,e1,x.keep ff fun b u hb hr=>⟨(kp b u hb (by rw [hr];exact fun z=>by cases z)).1,hr⟩⟩
def Wd.addF(w:Wd)(p:Addr)(o:HO)(n:Nat)(f:Str):Wd:=⟨upd w.H p o,fun b=>if b=p then some (.fld n f) else w.ow b,w.mu⟩
def Rel.newf(R:Rel cl B σ w ρ S)(hn:S[n]?=some ob)(hmu:w.mu[n]?=some a)(how:w.ow a=some (.obj n))(hH:w.H a=some (.ins (cl ob.cls) dx fs))(hF:zd0 cl w n fs ob.fs)(hp:w.H p=none) :
  Rel cl B σ ((w.addF p (.ext (DN cl.P cl.wo p [])) n f).mut a (.ins (cl ob.cls) dx (zeg f (.ref p) fs))) ρ (S.set n (ob.put f true (.dic [])))/\Fut w ((w.addF p (.ext (DN cl.P cl.wo p [])) n f).mut a (.ins (cl ob.cls) dx (zeg f (.ref p) fs))):=by
 have hap:a≠p:=zaF hH hp
 have kp:∀b u,w.H b=some u->w.ow b≠some (.obj n)->((w.addF p (.ext (DN cl.P cl.wo p [])) n f).mut a (.ins (cl ob.cls) dx (zeg f (.ref p) fs))).H b=some u/\((w.addF p (.ext (DN cl.P cl.wo p [])) n f).mut a (.ins (cl ob.cls) dx (zeg f (.ref p) fs))).ow b=w.ow b:=fun b u hb hne=>by
  have hbp:b≠p:=zaF hb hp;refine ⟨?_,?_⟩
  ·show upd (upd w.H p _) a _ b=_;rw [zau (fun z=>hne (by rw [z];exact how)),zau hbp];exact hb
  ·show (if b=p then _ else w.ow b)=_;rw [if_neg hbp]
 have ff:Fut w ((w.addF p (.ext (DN cl.P cl.wo p [])) n f).mut a (.ins (cl ob.cls) dx (zeg f (.ref p) fs))):=⟨fun b u hb hk=>by
  have:=kp b u hb (by rw [hk];exact fun z=>by cases z)
  exact ⟨this.1,this.2.trans hk⟩,fun _ _ h=>h⟩
 have hB:B.Fr a=none:=(R.wd.own a _ how).elim (fun z=>by cases z) fun z=>z
 have hBp:B.Fr p=none:=by
  cases z:B.Fr p with
  | none=>rfl
  | some u=>have:=(R.wd.fr p u z).1;rw [hp] at this;cases this
 have Hp:((w.addF p (.ext (DN cl.P cl.wo p [])) n f).mut a (.ins (cl ob.cls) dx (zeg f (.ref p) fs))).H p=some (.ext (DN cl.P cl.wo p [])):=by
  show upd (upd w.H p _) a _ p=_;rw [zau hap.symm,zaM]
 have owp:((w.addF p (.ext (DN cl.P cl.wo p [])) n f).mut a (.ins (cl ob.cls) dx (zeg f (.ref p) fs))).ow p=some (.fld n f):=if_pos rfl
 have owa:((w.addF p (.ext (DN cl.P cl.wo p [])) n f).mut a (.ins (cl ob.cls) dx (zeg f (.ref p) fs))).ow a=some (.obj n):=by
  show (if a=p then _ else w.ow a)=_;rw [if_neg hap];exact how
 refine ⟨⟨⟨fun b u h=>?_,fun b r h=>?_,by rw [yaR];exact R.wd.len,fun m ob' h=>?_⟩,R.len,fun i o e h=>?_⟩,ff⟩
 ·have:=kp b u (R.wd.fr b u h).1 fun z=>by
   rcases R.wd.own b _ z with y | y
   ·cases y
   ·rw [h] at y;cases y
  exact ⟨this.1,this.2.trans (R.wd.fr b u h).2⟩
 ·have h':(if b=p then some (Root.fld n f) else w.ow b)=some r:=h;split at h'
  ·rename_i z;rw [z];exact .inr hBp
  ·exact R.wd.own b r h'
 ·rcases zjj h with ⟨rfl,rfl⟩ | ⟨hne,h⟩
  ·refine ⟨a,hmu,owa,dx,_,zaM,?_⟩;refine zd0.put (hF.keepF ff fun b u g hb hg=>?_) (.inr ⟨rfl,p,[],[],[],rfl,owp,Hp,.nil,.nil,rfl⟩);have:=kp b u hb (by rw [hg];exact fun z=>by cases z);exact ⟨this.1,this.2.trans hg⟩
  ·obtain ⟨b,e,x⟩:=R.wd.obj m ob' h;exact ⟨b,e,x.keep ff fun b u hb hm=>kp b u hb fun z=>by rw [z] at hm;exact hne hm.symm⟩
 ·obtain ⟨v,e1,x⟩:=R.slots i o e h
  exact ⟨v,e1,x.keep ff fun b u hb hr=>by
   have:=kp b u hb (by rw [hr];exact fun z=>by cases z)
   exact ⟨this.1,this.2.trans hr⟩⟩
noncomputable def zgB(ob:Ob):Bool:=decide (ob.fs.map (·.1)).Nodup
def zd0.dic(ff:Fut w w')(k:∀b o g,g≠f->w.H b=some o->w.ow b=some (.fld n g)->w'.H b=some o/\w'.ow b=some (.fld n g))(hy:zjz cl w' (.fld n f) true (.ref a) d):∀{fs:List (Str×V)} {gs:List (Str×Bool×D)},zd0 cl w n fs gs->(gs.map (·.1)).Nodup->fs.lookup f=some (.ref a)->zd0 cl w' n fs (zaR f true d gs):=by
 intro fs gs h
 induction h with
 | nil=>intro _ e;cases e
 | @cons p q l1 l2 h t ih =>
  intro nd e;obtain ⟨h1,h2⟩:=h;obtain ⟨g,v⟩:=p;obtain ⟨g',o',d'⟩:=q;have h1':g=g':=h1;subst h1';rw [yay,ybz] at nd;show zd0 cl w' n ((g,v)::l1) (if g=f then (g,true,d)::l2 else (g,o',d')::zaR f true d l2);rw [yaE] at e
  by_cases hg:g=f
  ·subst hg;rw [if_pos rfl];simp only [ybP] at e;cases e;refine .cons ⟨rfl,hy⟩ ?_;have t':zd0 cl w n l1 l2:=t;exact t'.keepBut ff k fun q hq hx=>absurd (yat.mpr ⟨q,hq,hx⟩) nd.1
  ·rw [if_neg hg];have hb:(f == g)=false:=yaW.mpr fun z=>hg z.symm
   rw [hb] at e;exact .cons ⟨rfl,h2.keep ff fun b o hb hr=>k b o g hg hb hr⟩ (ih nd.2 e)
def Rel.setd(R:Rel cl B σ w ρ S)(hn:S[n]?=some ob)(hmu:w.mu[n]?=some a)(how:w.ow a=some (.obj n))(hH:w.H a=some (.ins (cl ob.cls) dx fs))(hF:zd0 cl w n fs ob.fs)
  (hl:fs.lookup f=some (.ref c)) (hc:w.ow c=some (.fld n f)) (hcH:w.H c=some (.ext (DN cl.P cl.wo c xs))) (he:zkD w xs m) (hs:ShdN cl w m ds) (hk:znC w kb k) (rv:zbM v u) (hv:Shd cl w v d) (nd:zgB ob=true) :
  Rel cl B σ (w.mut c (.ext (DN cl.P cl.wo c (xs++[(k,kb,u)])))) ρ (S.set n (ob.put f true (.dic (ds++[(nkD k,d)]))))/\Fut w (w.mut c (.ext (DN cl.P cl.wo c (xs++[(k,kb,u)])))):=by
 have ff:=zei (w:=w) (p:=c) (o:=.ext (DN cl.P cl.wo c (xs++[(k,kb,u)]))) (by rw [hc];exact yaU _)
 have kp:∀b o,w.H b=some o->w.ow b≠some (.fld n f)->(w.mut c (.ext (DN cl.P cl.wo c (xs++[(k,kb,u)])))).H b=some o/\(w.mut c (.ext (DN cl.P cl.wo c (xs++[(k,kb,u)])))).ow b=w.ow b:=fun b o hb hne=>⟨by
  show upd w.H c _ b=_
  rw [zau (fun z=>hne (by rw [z];exact hc))];exact hb,rfl⟩
 have hB:B.Fr c=none:=(R.wd.own c _ hc).elim (fun z=>by cases z) fun z=>z
 refine ⟨⟨⟨fun b o h=>?_,R.wd.own,by rw [yaR];exact R.wd.len,fun m' ob' h=>?_⟩,R.len,fun i o e h=>?_⟩,ff⟩
 ·refine ⟨?_,(R.wd.fr b o h).2⟩;show upd w.H c _ b=_;rw [zau (fun z=>by rw [z,hB] at h;cases h)];exact (R.wd.fr b o h).1
 ·rcases zjj h with ⟨rfl,rfl⟩ | ⟨hne,h⟩
  ·refine ⟨a,hmu,how,dx,fs,?_,?_⟩
   ·exact (kp a _ hH (by rw [how];exact fun z=>by cases z)).1
   ·refine zd0.dic (a:=c) ff (fun b o g hg hb hr=>?_) (.inr ⟨rfl,c,_,m++[(k,v)],ds++[(nkD k,d)],rfl,hc,zaM,?_,?_,rfl⟩) hF (yar nd) hl
    ·exact ⟨(kp b o hb (by rw [hr];exact fun z=>hg (by cases z;rfl))).1,hr⟩
    ·exact (he.up ff).snoc ⟨rfl,hk.up ff,rv⟩
    ·exact (hs.up ff).snoc (hv.up ff)
  ·obtain ⟨b,e,x⟩:=R.wd.obj m' ob' h;exact ⟨b,e,x.keep ff fun b o hb hm=>kp b o hb fun z=>by rw [z] at hm;exact hne hm.symm⟩
 ·obtain ⟨v',e1,x⟩:=R.slots i o e h;exact ⟨v',e1,x.keep ff fun b o hb hr=>⟨(kp b o hb (by rw [hr];exact fun z=>by cases z)).1,hr⟩⟩
def Wd.addO(w:Wd)(x dx C:Addr)(n:Nat):Wd:=⟨upd (upd w.H dx (.own x)) x (.ins C dx []),fun b=>if b=x then some (.obj n) else if b=dx then none else w.ow b,w.mu++[x]⟩
theorem Rel.made(R:Rel cl B σ w ρ S)(hx:w.H x=none)(hdx:w.H dx=none)(ne:dx≠x):Rel cl B σ (w.addO x dx (cl c) S.length) ρ (S++[⟨c,[]⟩])/\Fut w (w.addO x dx (cl c) S.length):=by
 have kp:∀b o,w.H b=some o->(w.addO x dx (cl c) S.length).H b=some o/\(w.addO x dx (cl c) S.length).ow b=w.ow b:=fun b o hb=>by
  have n1:b≠x:=zaF hb hx;have n2:b≠dx:=zaF hb hdx;refine ⟨?_,?_⟩
  ·show upd (upd w.H dx _) x _ b=_;rw [zau n1,zau n2];exact hb
  ·show (if b=x then _ else if b=dx then _ else w.ow b)=_;rw [if_neg n1,if_neg n2]
 have ff:Fut w (w.addO x dx (cl c) S.length):=⟨fun b o hb hk=>⟨(kp b o hb).1,(kp b o hb).2.trans hk⟩,fun n a h=>by
  show (w.mu++[x])[n]?=some a
  rw [yax (yan.mp h).1];exact h⟩
 have hBx:B.Fr x=none:=by
  cases z:B.Fr x with
  | none=>rfl
  | some u=>have:=(R.wd.fr x u z).1;rw [hx] at this;cases this
 refine ⟨⟨⟨fun b o h=>?_,fun b r h=>?_,by show (w.mu++[x]).length=_;rw [yah,yah,R.wd.len];rfl,fun m ob h=>?_⟩,R.len,fun i o e h=>?_⟩,ff⟩
 ·have:=kp b o (R.wd.fr b o h).1;exact ⟨this.1,this.2.trans (R.wd.fr b o h).2⟩
 ·have h':(if b=x then some (Root.obj S.length) else if b=dx then none else w.ow b)=some r:=h;split at h'
  ·rename_i z;rw [z];exact .inr hBx
  ·split at h'
   ·cases h'
   ·exact R.wd.own b r h'
 ·by_cases hm:m<S.length
  ·rw [yax hm] at h;obtain ⟨b,e,y⟩:=R.wd.obj m ob h;exact ⟨b,ff.mu _ _ e,y.keep ff fun b o hb _=>kp b o hb⟩
  ·have hm':m=S.length:=by
    have:=(yan.mp h).1;rw [yah,yaN] at this;omega
   subst hm';rw [yap (yam _),ybw] at h;cases h;refine ⟨x,?_,if_pos rfl,dx,[],zaM,.nil⟩;show (w.mu++[x])[S.length]?=some x;rw [yap (by rw [R.wd.len];exact yam _),R.wd.len,ybw];rfl
 ·obtain ⟨v,e1,y⟩:=R.slots i o e h;exact ⟨v,e1,y.keep ff fun b o hb hr=>⟨(kp b o hb).1,(kp b o hb).2.trans hr⟩⟩
end
noncomputable def zoi:D->Option (Option Int) | .non=>some none | .int i=>some (some i) | _=>none
def zeH:List D->Option (List (Option Int))
 | []=>some []
 | d::r=>(zoi d).bind fun o=>(zeH r).map (o::·)
def zj4:D->Option NK
 | .tup [.int i,.tup l]=>(zeH l).map fun os=>(i,os)
 | _=>none
def zbE(k:NK):List (D×D)->Option D
 | []=>none
 | (q,d)::r=>if zj4 q=some k then some d else zbE k r
def zmf(o:Option Int):zoi (oDn o)=some o:=by cases o<;>rfl
theorem zgz:∀l:List (Option Int),zeH (l.map oDn)=some l
 | []=>rfl
 | o::l=>by rw [yay];unfold zeH;rw [zmf,zgz l];rfl
def zeI(k:NK):zj4 (nkD k)=some k:=by
 show (zeH (k.2.map oDn)).map (fun os=>(k.1,os))=some k;rw [zgz];rfl
section
variable{cl:Cf}{w:Wd}
theorem zme:∀{xs:List V} {ds:List D} {os:Z4},Shds cl w xs ds->zeH ds=some os->xs=os.map oV
 | _,_,os,.nil,h=>by cases h;rfl
 | _,_,os,.cons (v:=v) (d:=d) (ds:=ds) r t,h=>by
  unfold zeH at h
  cases h1:zoi d with
  | none=>rw [h1] at h;cases h
  | some o =>
   rw [h1] at h
   cases h2:zeH ds with
   | none=>rw [h2] at h;cases h
   | some os' =>
    rw [h2] at h;cases h;rw [yay,<-zme t h2]
    cases d<;>simp [zoi] at h1<;>subst h1<;>cases r<;>rfl
def zpz(h:Shd cl w v d)(hk:zj4 d=some k):∃kb,v=.ref kb/\znC w kb k:=by
 unfold zj4 at hk;split at hk
 ·rename_i i l
  cases ho:zeH l with
  | none=>rw [ho] at hk;cases hk
  | some os =>
   rw [ho] at hk;cases hk
   cases h with
   | tup e o r =>
    cases r with
    | cons r1 t =>
     cases t with
     | cons r2 t =>
      cases t;cases r1
      cases r2 with
      | tup e2 o2 r2=>exact ⟨_,rfl,_,⟨e,o⟩,by rw [<-zme r2 ho];exact e2,o2⟩
 ·cases hk
theorem zoP:∀{m:List (NK×V)} {ds:List (D×D)},ShdN cl w m ds->∀k:NK,(m.lookup k=none/\zbE k ds=none)\/∃v d,m.lookup k=some v/\zbE k ds=some d/\Shd cl w v d
 | _,_,.nil,k=>.inl ⟨rfl,rfl⟩
 | _,_,.cons (k:=k') (v:=v) (d:=d) r t,k=>by
  rw [yaE];unfold zbE;rw [zeI]
  by_cases e:k'=k
  ·subst e;rw [if_pos rfl,ybP];exact .inr ⟨v,d,rfl,rfl,r⟩
  ·rw [if_neg (fun z=>e (by cases z;rfl)),yaW.mpr (fun z=>e z.symm)];exact zoP t k
theorem zpJ:∀{m:List (NK×V)} {ds:List (D×D)},ShdN cl w m ds->m.length=ds.length
 | _,_,.nil=>rfl
 | _,_,.cons r t=>by rw [yai,yai,zpJ t]
end
noncomputable def zkg(cn f:Str)(d:D)(S:Sto):Option D:=match d with
 | .ref n=>(match S[n]? with
  | some ob=>if ob.cls=cn then (match ob.fs.lookup f with | some (false,d)=>some d | _=>none) else none
  | none=>none)
 | _=>none
def zgl(cn f:Str)(fe:Fe):Fe:=fun ρ S=>(fe ρ S).bind fun d S1=>match zkg cn f d S1 with | some r=>.ok r S1 | none=>.bad
noncomputable def znw(cl:Cf)(cn f:Str):Prop:=Cls cl.K (cl cn)/\zd9 cl.K (cl cn) f
noncomputable def zhM(cn f:Str)(d:D)(S:Sto):Option (Nat×Ob×List (D×D)):=match d with
 | .ref n=>(match S[n]? with
  | some ob=>if ob.cls=cn then (match ob.fs.lookup f with | some (true,.dic ds)=>some (n,ob,ds) | _=>none) else none
  | none=>none)
 | _=>none
section
variable{cl:Cf}{cn:Str}{X:Cx}{E:St->XK}{e:Expr}{fe:Fe}{f:Str}{pos:Pos}{B:Base}{σ:St}{w:Wd}{ρ:Env}{S:Sto}
def ziY(R:Rel cl B σ w ρ S)(hv:Shd cl w v (.ref n))(hn:S[n]?=some ob):∃a dx fs,v=.ref a/\w.mu[n]?=some a/\w.ow a=some (.obj n)/\w.H a=some (.ins (cl ob.cls) dx fs)/\zd0 cl w n fs ob.fs:=by
 cases hv with
 | ref e =>
  obtain ⟨h1,dx,fs,h2,h3⟩:=R.wd.atObj hn e;exact ⟨_,dx,fs,rfl,e,h1,h2,h3⟩
def zuB(hk:znw cl cn f)(R:Rel cl B σ w ρ S)(hv:Shd cl w v d)(hd:zkg cn f d S=some r):∃a C dx fs y,v=.ref a/\w.H a=some (.ins C dx fs)/\Cls cl.K C/\zd9 cl.K C f/\fs.lookup f=some y/\Shd cl w y r:=by
 unfold zkg at hd
 cases d with
 | ref n =>
  dsimp only at hd
  cases hS:S[n]? with
  | none=>rw [hS] at hd;cases hd
  | some ob =>
   rw [hS] at hd;dsimp only at hd;split at hd
   ·rename_i hfk;split at hd
    ·rename_i d hl;cases hd;obtain ⟨a,dx,fs,rfl,_,_,hH,hF⟩:=ziY R hv hS;obtain ⟨v,lv,fr⟩:=hF.look hl
     rcases fr with ⟨_,fr⟩ | ⟨z,_⟩
     ·exact ⟨a,_,dx,fs,v,rfl,hH,hfk ▸ hk.1,hfk ▸ hk.2,lv,fr⟩
     ·cases z
    ·cases hd
   ·cases hd
 | _=>cases hd
def zsM(hk:znw cl cn f)(kk:X.K=cl.K)(he:PE X e (tE cl E fe))(hb:attributeBase e f X.env (eval e X.env)=eval e X.env):PE X (.Attribute e f pos) (tE cl E (zgl cn f fe)):=by
 refine PE.imp (zik he hb) ?_;rintro σ H Q ⟨B,w,ρ,S,rfl,R,q⟩;refine ⟨B,w,ρ,S,rfl,R,?_⟩;unfold zgl at q
 cases hf:fe ρ S with
 | bad=>rwa [hf] at q
 | exc c S1=>rwa [hf] at q
 | ok d S1 =>
  rw [hf] at q;intro v w1 R1 F1 h1;dsimp only [Out.bind] at q
  cases hd:zkg cn f d S1 with
  | none=>rw [hd] at q;exact q.elim
  | some r =>
   rw [hd] at q;obtain ⟨a,C,dx,fs,y,rfl,e1,e2,e3,e4,e5⟩:=zuB hk R1 h1 hd;rw [kk];exact ⟨a,C,dx,fs,y,rfl,e1,e2,e3,e4,q y w1 R1 F1 e5⟩
def zno(hk:znw cl cn f)(R:Rel cl B σ w ρ S)(hv:Shd cl w v d)(hd:zhM cn f d S=some (n,ob,ds)) :
  ∃a dx fs c xs m,v=.ref a/\S[n]?=some ob/\w.mu[n]?=some a/\w.ow a=some (.obj n)/\w.H a=some (.ins (cl ob.cls) dx fs)/\zd0 cl w n fs ob.fs/\Cls cl.K (cl ob.cls)/\zd9 cl.K (cl ob.cls) f/\fs.lookup f=some (.ref c)/\w.ow c=some (.fld n f)/\w.H c=some (.ext (DN cl.P cl.wo c xs))/\zkD w xs m/\ShdN cl w m ds:=by
 unfold zhM at hd
 cases d with
 | ref n' =>
  dsimp only at hd
  cases hS:S[n']? with
  | none=>rw [hS] at hd;cases hd
  | some ob' =>
   rw [hS] at hd;dsimp only at hd;split at hd
   ·rename_i hfk;split at hd
    ·rename_i ds' hl;cases hd;obtain ⟨a,dx,fs,rfl,hmu,how,hH,hF⟩:=ziY R hv hS;obtain ⟨v,lv,fr⟩:=hF.look hl
     rcases fr with ⟨z,_⟩ | ⟨_,c,xs,m,ds2,rfl,c1,c2,c3,c4,e⟩
     ·cases z
     ·cases e;exact ⟨a,dx,fs,c,xs,m,rfl,hS,hmu,how,hH,hF,hfk ▸ hk.1,hfk ▸ hk.2,lv,c1,c2,c3,c4⟩
    ·cases hd
   ·cases hd
 | _=>cases hd
end
end S2
namespace L2
open PySem PySem.Spec PyProof.Rows
section
variable{X:Cx}
noncomputable def zzv(ta:TA):TE:=fun σ H Q=>ta σ H fun vs H1=>∃j:Int,vs=[.int j]/\0<=j/\j<=1000/\∀p,H1 p=none->Q (.ref p) (upd H1 p (.rng 0 j))
def zs9{a:Expr}{ta:TA}{p pos:Pos}(hg:Gl X "range")(hm:X.mg "range" = none)(ha:PA X [a] ta)(hs:starEach [a] X.env=[(false,eval a X.env)]:=by rfl):PE X (.Call (.Name "range" p) [a] [] pos) (zzv ta):=by
 intro pins s σ H Q I h;refine Call_ (zfT I hg hm boot_range (ybi (thn (ha pos pins s σ H _ I h) fun us s1 ⟨vs,H1,I1,r1,q1⟩=>?_) hs rfl));obtain ⟨j,e,j0,j1,q⟩:=q1;subst e
 cases r1 with
 | cons r rr =>
  cases rr;obtain ⟨t,rfl⟩:=r;refine call_range_1 ⟨.ref s1.heap.objs.size,_,I1.laid (a:=s1.heap.objs.size) (o:=.rng 0 j) (fun _ _ q=>yaf _ q) (yam _) ⟨_,_,_,yau _ rfl⟩,rfl,q _ (I1.hok.fresh (yam _))⟩
theorem zkF:∀(n:Nat) (its:List Value),its.length=n->(∀(i:Nat) (v:Value),its[i]?=some v->∃t,v=.int (i:Int) t)->Vals ((List.range n).map fun (i:Nat)=>V.int (i:Int)) its:=by
 intro n
 induction n with
 | zero =>
  intro its hl _;have:its=[]:=ybe hl;subst this;exact .nil
 | succ n ih =>
  intro its hl h
  have e:its=its.take n++[its[n]]:=by
   have:=List.take_append_drop n its
   have h2:its.drop n=[its[n]]:=by
    rw [yb1 (by omega),List.drop_of_length_le (by omega)]
   rw [h2] at this;exact this.symm
  rw [e,ya5,ybV];refine (ih (its.take n) (by rw [ya6];omega) fun i v hv=>?_).append (.cons ?_ .nil)
  ·have hi:i<n:=by
    have:=(yan.mp hv).1;rw [ya6] at this;omega
   rw [ycg,if_pos hi] at hv;exact h i v hv
  ·exact h n its[n] (yaa (by omega))
theorem zhC(hc:X.calm=true):zet X (.type "list") (fun xs H Q=>∃(p:Addr) (n:Nat),xs=[.ref p]/\H p=some (.rng 0 (n:Int))/\n<=1000/\∀l,H l=none->Q (.ref l) (upd H l (.lst ((List.range n).map fun (i:Nat)=>V.int (i:Int))))):=by
 intro pins s σ H xs us Q I r h;obtain ⟨p,n,rfl,hp,hn,q⟩:=h;obtain ⟨u,rfl,rx⟩:=zgX r;cases rx;obtain ⟨t,u,v,hr⟩:=I.hok p _ hp;refine call_list_range (n:=n) (I.ok.hd hc) (show IsRange s.heap p 0 (n:Int) 1 t u v from hr) (small_one (by omega) (by omega) (by omega) (by omega)) (by rw [rangeSize_one];split<;>omega) (by omega) fun h' tk acc c' kp e hi=>?_
 refine ⟨.ref s.heap.objs.size,_,I.laid (t':=tk) kp (yam _) (show zb8 X.prog X.w _ h' _ (.lst _) from ⟨?_,acc.toList,c',zkF n acc.toList ?_ ?_,by simpa using e⟩),rfl,q _ (I.hok.fresh (yam _))⟩
 ·rw [yae,yby];exact yak hn (by decide)
 ·have:=hi.1;simpa using this
 ·intro i v hv;have:=hi.2 i v (by simpa using hv);simpa using this
end
end L2
namespace S2
open PySem PySem.Spec PyProof.Rows L2
def zpI(cn f:Str)(fa fo:Fe):Fe:=fun ρ S=>(fa ρ S).bind fun dk S1=>(fo ρ S1).bind fun d S2=>match zj4 dk,zhM cn f d S2 with
 | some k,some (_,_,ds)=>.ok (.bl (zbE k ds).isNone) S2
 | _,_=>.bad
noncomputable def zlm(ρ:Env)(i:Nat):Option NK:=match ρ[i]? with | some (some (false,dk))=>zj4 dk | _=>none
def zlc(cn f:Str)(fo:Fe)(i:Nat):Fe:=fun ρ S=>(fo ρ S).bind fun d S1=>match zlm ρ i,zhM cn f d S1 with
 | some k,some (_,_,ds)=>(match zbE k ds with | some r=>.ok r S1 | none=>.bad)
 | _,_=>.bad
def zkQ(cn f:Str)(fo:Fe)(i:Nat)(fe:Fe):Fs:=fun ρ S=>match fe ρ S with
 | .bad=>.bad
 | .exc c S1=>.ex c ρ S1
 | .ok r S1=>(match fo ρ S1 with
  | .bad=>.bad
  | .exc c S2=>.ex c ρ S2
  | .ok d S2=>(match zlm ρ i,zhM cn f d S2 with
   | some k,some (n,ob,ds)=>if (zbE k ds).isNone&&decide (ds.length<=1000000)&&zgB ob then .nx ρ (S2.set n (ob.put f true (.dic (ds++[(nkD k,r)])))) else .bad
   | _,_=>.bad))
def zg5(cn f:Str)(fo fe:Fe):Fs:=fun ρ S=>match fe ρ S with
 | .bad=>.bad
 | .exc c S1=>.ex c ρ S1
 | .ok r S1=>(match fo ρ S1 with
  | .bad=>.bad
  | .exc c S2=>.ex c ρ S2
  | .ok (.ref n) S2=>(match S2[n]? with
   | some ob=>if decide (ob.cls=cn)&&decide (ob.fs.length<1000) then .nx ρ (S2.set n (ob.put f false r)) else .bad
   | none=>.bad)
  | .ok _ _=>.bad)
def zkS(cn f:Str)(i:Nat):Fs:=fun ρ S=>match ρ[i]? with
 | some (some (false,.ref n))=>(match S[n]? with
   | some ob=>if decide (ob.cls=cn)&&decide (ob.fs.length<1000) then .nx ρ (S.set n (ob.put f true (.dic []))) else .bad
   | none=>.bad)
 | _=>.bad
noncomputable def zdz(c m:Str)(d:D)(S:Sto):Bool:=match d with
 | .ref n=>(match S[n]? with | some ob=>decide (ob.cls=c)&&(ob.fs.lookup m).isNone | none=>false)
 | _=>false
def zbY(c m:Str)(G:List D->Sto->Out D)(fo:Fe)(fs:List Fe):Fe:=fun ρ S=>(fo ρ S).bind fun d S1=>if zdz c m d S1 then (zan fs ρ S1).bind fun ds S2=>G (d::ds) S2 else .bad
def eMk(c:Str)(dds:List D)(G:List D->Sto->Out D)(fs:List Fe):Fe:=fun ρ S=>(zan fs ρ S).bind fun ds S1=>(G (.ref S1.length::(ds++dds)) (S1++[⟨c,[]⟩])).bind fun r S2=>match r with | .non=>.ok (.ref S1.length) S2 | _=>.bad
structure Same'(cl:Cf)(X:Cx):Prop where
 kk:X.K=cl.K
 pp:X.prog=cl.P
 ww:X.w=cl.wo
section
variable{cl:Cf}{cn:Str}{X:Cx}{E:St->XK}{a o e:Expr}{fa fo fe:Fe}{f:Str}{pos apos:Pos}{own:Bool}
def ztF(sm:Same' cl X)(hk:znw cl cn f)(σ:St)(H:Hp)(Q:VK)(q:tE cl E (zpI cn f fa fo) σ H Q) :
  tOp (fun x y H Q=>∃kb a k xs m,x=.ref kb/\y=.ref a/\zjy H kb k/\H a=some (.ext (DN X.prog X.w a xs))/\zo9 H xs m/\Q (.bl (m.lookup k).isNone) H) (tE cl E fa) (zxI X.K (tE cl E fo) f) σ H Q:=by
 obtain ⟨B,w,ρ,S,rfl,R,q⟩:=q;refine ⟨B,w,ρ,S,rfl,R,?_⟩;unfold zpI at q
 cases hf:fa ρ S with
 | bad=>rwa [hf] at q
 | exc c S1=>rwa [hf] at q
 | ok dk S1 =>
  rw [hf] at q;intro v w1 R1 F1 h1;refine ⟨B,w1,ρ,S1,rfl,R1,?_⟩;dsimp only [Out.bind] at q
  cases hh:fo ρ S1 with
  | bad=>rwa [hh] at q
  | exc c S2=>rw [hh] at q;exact fun w2 R2 F2=>q w2 R2 (F1.trans F2)
  | ok d S2 =>
   rw [hh] at q;intro y w2 R2 F2 h2;dsimp only at q
   cases hn:zj4 dk with
   | none=>rw [hn] at q;exact q.elim
   | some k =>
    cases hd:zhM cn f d S2 with
    | none=>rw [hn,hd] at q;exact q.elim
    | some t =>
     obtain ⟨n,ob,ds⟩:=t;rw [hn,hd] at q;dsimp only at q;obtain ⟨a,dx,fs,c,xs,m,rfl,_,_,_,hH,_,c1,c2,lv,_,hc,he,hs⟩:=zno hk R2 h2 hd;obtain ⟨kb,rfl,ks⟩:=zpz (h1.up F2) hn;rw [sm.kk];refine ⟨a,_,dx,fs,_,rfl,hH,c1,c2,lv,kb,c,k,xs,m,rfl,rfl,ks.at,by rw [sm.pp,sm.ww];exact hc,he.ents,?_⟩
     have:(m.lookup k).isNone=(zbE k ds).isNone:=by
      rcases zoP hs k with ⟨e1,e2⟩ | ⟨_,_,e1,e2,_⟩<;>rw [e1,e2]<;>rfl
     rw [this];exact q _ w2 R2 (F1.trans F2) (.bl _)
def zsK(hu:X.A.units+16<cLine)(sm:Same' cl X)(hk:znw cl cn f)(ha:PE X a (tE cl E fa))(ho:PE X o (tE cl E fo))(hb:attributeBase o f X.env (eval o X.env)=eval o X.env)(hm:behindInMarks .NotIn (.Attribute o f apos)=false):PE X (.Compare a [.NotIn] [.Attribute o f apos] pos) (tE cl E (zpI cn f fa fo)) :=
 PE.imp (zma (zpv hu) ha (zik ho hb) hm) (ztF sm hk)
def zsq(hu:X.A.units+16<cLine)(sm:Same' cl X)(hk:znw cl cn f)(ha:PE X a (tE cl E fa))(ho:PE X o (tE cl E fo))(hb:attributeBase o f X.env (eval o X.env)=eval o X.env)(hm:behindInMarks .NotIn (.Attribute o f apos)=false):PT X (.Compare a [.NotIn] [.Attribute o f apos] pos) (tTr cl E (zpI cn f fa fo)) :=
 PT.imp (zl2 (zpv hu) ha (zik ho hb) hm) fun _ _ _ q=>ztF sm hk _ _ _ (zjF q)
def zmC(R:Rel cl B σ w ρ S)(h:zlm ρ i=some k):∃kb,σ[i]?=some (some (.ref kb))/\znC w kb k:=by
 unfold zlm at h;split at h
 ·rename_i dk hi;obtain ⟨v,e,r⟩:=R.slots i false dk hi;obtain ⟨kb,rfl,ks⟩:=zpz r h;exact ⟨kb,e,ks⟩
 ·cases h
def zqm(hN:X.N[i]?=some x)(hv:Vis X.env.scope x)(hd:(x == ("__debug__":Str))=false)(hcd:(x == ("__classdict__":Str))=false)(hu:X.A.units+16<cLine)(sm:Same' cl X)(hk:znw cl cn f)(ho:PE X o (tE cl E fo))(hb:attributeBase o f X.env (eval o X.env)=eval o X.env)(hs:zhI (.Name x p)):PE X (.Subscript (.Attribute o f apos) (.Name x p) pos) (tE cl E (zlc cn f fo i)):=by
 refine PE.imp (ztd (zt2 hu) (zik ho hb) (zdn hN hv hd hcd) hs) ?_;rintro σ H Q ⟨B,w,ρ,S,rfl,R,q⟩;refine ⟨B,w,ρ,S,rfl,R,?_⟩;unfold zlc at q
 cases hf:fo ρ S with
 | bad=>rwa [hf] at q
 | exc c S1=>rwa [hf] at q
 | ok d S1 =>
  rw [hf] at q;intro v w1 R1 F1 h1;dsimp only [Out.bind] at q
  cases hn:zlm ρ i with
  | none=>rw [hn] at q;exact q.elim
  | some k =>
   cases hd:zhM cn f d S1 with
   | none=>rw [hn,hd] at q;exact q.elim
   | some t =>
    obtain ⟨n,ob,ds⟩:=t;rw [hn,hd] at q;dsimp only at q;obtain ⟨a,dx,fs,c,xs,m,rfl,_,_,_,hH,_,c1,c2,lv,_,hc,he,hs⟩:=zno hk R1 h1 hd;obtain ⟨kb,eσ,ks⟩:=zmC R1 hn
    cases hl:zbE k ds with
    | none=>rw [hl] at q;exact q.elim
    | some r =>
     rw [hl] at q
     rcases zoP hs k with ⟨_,e2⟩ | ⟨y,r',e1,e2,sh⟩
     ·rw [hl] at e2;cases e2
     ·rw [hl] at e2;cases e2;rw [sm.kk];exact ⟨a,_,dx,fs,_,rfl,hH,c1,c2,lv,_,eσ,c,kb,k,xs,m,y,rfl,rfl,ks.at,by rw [sm.pp,sm.ww];exact hc,he.ents,e1,q _ w1 R1 F1 sh⟩
def zp7(hN:X.N[i]?=some x)(hv:Vis X.env.scope x)(hd:(x == ("__debug__":Str))=false)(hcd:(x == ("__classdict__":Str))=false)(hu:X.A.units+16<cLine)(sm:Same' cl X)(hk:znw cl cn f)(ho:PE X o (tE cl E fo))(hb:attributeBase o f X.env (eval o X.env)=eval o X.env)(he:PE X e (tE cl E fe))
  (sw1:swapsWithSole [.Subscript (.Attribute o f apos) (.Name x p) p3] e pos.line X.env=pure false) (sw2:swappedStores [.Subscript (.Attribute o f apos) (.Name x p) p3] e X.env=pure none)
  (ha:∀v,assign (.Subscript (.Attribute o f apos) (.Name x p) p3) X.env v=(do
   let ov ← holding [v] (eval (.Attribute o f apos) X.env)
   let iv ← holding [v,ov] (eval (.Name x p) X.env)
   standAt p3
   holding [v,ov,iv] (setItem ov iv v)
   release [v,ov,iv] [])):PS X (.Assign [.Subscript (.Attribute o f apos) (.Name x p) p3] e pos) (tS cl E own (zkQ cn f fo i fe)):=by
 refine PS.imp (zjU he (zpr (zik ho hb) (zdn hN hv hd hcd) (zqh hu) ha) sw1 sw2 rfl) ?_;rintro De σ H ⟨B,w,ρ,S,rfl,R,q⟩;refine ⟨B,w,ρ,S,rfl,R,?_⟩;unfold zkQ at q
 cases hf:fe ρ S with
 | bad=>rwa [hf] at q
 | exc c S1=>rw [hf] at q;exact fun w' R' F'=>q σ w' R' F'
 | ok r S1 =>
  rw [hf] at q;intro v w1 R1 F1 h1;dsimp only at q;refine ⟨B,w1,ρ,S1,rfl,R1,?_⟩
  cases hfo:fo ρ S1 with
  | bad=>rwa [hfo] at q
  | exc c S2=>rw [hfo] at q;exact fun w' R' F'=>q σ w' R' (F1.trans F')
  | ok d S2 =>
   rw [hfo] at q;intro y w2 R2 F2 h2;dsimp only at q
   cases hn:zlm ρ i with
   | none=>rw [hn] at q;exact q.elim
   | some k =>
    cases hd:zhM cn f d S2 with
    | none=>rw [hn,hd] at q;exact q.elim
    | some t =>
     obtain ⟨n,ob,ds⟩:=t;rw [hn,hd] at q;dsimp only at q;split at q
     ·rename_i hc0;rw [yac,yac] at hc0;obtain ⟨⟨z1,z2⟩,z3⟩:=hc0;obtain ⟨a,dx,fs,c,xs,m,rfl,hS,hmu,how,hH,hF,c1,c2,lv,oc,hc,he,hs⟩:=zno hk R2 h2 hd;obtain ⟨kb,eσ,ks⟩:=zmC R2 hn
      have hno:m.lookup k=none:=by
       rcases zoP hs k with ⟨e1,_⟩ | ⟨_,_,_,e2,_⟩
       ·exact e1
       ·rw [e2] at z1;cases z1
      rw [sm.kk];refine ⟨a,_,dx,fs,_,rfl,hH,c1,c2,lv,_,eσ,c,kb,k,xs,m,rfl,rfl,ks.at,by rw [sm.pp,sm.ww];exact hc,he.ents,hno,by rw [zpJ hs];exact yar z2,fun u ru=>?_⟩;obtain ⟨R3,F3⟩:=R2.setd hS hmu how hH hF lv oc hc he hs ks ru (h1.up F2) z3;rw [sm.pp,sm.ww];exact q σ _ R3 (F1.trans (F2.trans F3))
     ·exact q.elim
def zp9(sm:Same' cl X)(hk:znw cl cn f)(ho:PE X o (tE cl E fo))(he:PE X e (tE cl E fe))(hs:swapsWith e (some (.Attribute o f apos)) pos.line X.env=pure false):PS X (.Assign [.Attribute o f apos] e pos) (tS cl E own (zg5 cn f fo fe)):=by
 refine PS.imp (zpo ho he hs) ?_;rintro De σ H ⟨B,w,ρ,S,rfl,R,q⟩;refine ⟨B,w,ρ,S,rfl,R,?_⟩;unfold zg5 at q
 cases hf:fe ρ S with
 | bad=>rwa [hf] at q
 | exc c S1=>rw [hf] at q;exact fun w' R' F'=>q σ w' R' F'
 | ok r S1 =>
  rw [hf] at q;intro v w1 R1 F1 h1;dsimp only at q;refine ⟨B,w1,ρ,S1,rfl,R1,?_⟩
  cases hfo:fo ρ S1 with
  | bad=>rwa [hfo] at q
  | exc c S2=>rw [hfo] at q;exact fun w' R' F'=>q σ w' R' (F1.trans F')
  | ok d S2 =>
   rw [hfo] at q;intro y w2 R2 F2 h2
   cases d with
   | ref n =>
    dsimp only at q
    cases hS:S2[n]? with
    | none=>rw [hS] at q;exact q.elim
    | some ob =>
     rw [hS] at q;dsimp only at q;split at q
     ·rename_i hc0;rw [yac] at hc0;obtain ⟨a,dx,fs,rfl,hmu,how,hH,hF⟩:=ziY R2 h2 hS;rw [sm.kk];refine ⟨a,_,dx,fs,rfl,hH,yar hc0.1 ▸ hk.1,yar hc0.1 ▸ hk.2,by rw [hF.len];exact yar hc0.2,?_⟩;obtain ⟨R3,F3⟩:=R2.setf (f:=f) hS hmu how hH hF (h1.up F2);exact q σ _ R3 (F1.trans (F2.trans F3))
     ·exact q.elim
   | _=>exact q.elim
def zqa(hN:X.N[i]?=some x)(hv:Vis X.env.scope x)(hd:(x == ("__debug__":Str))=false)(hcd:(x == ("__classdict__":Str))=false)(sm:Same' cl X)(hk:znw cl cn f)(hs:swapsWith (.Dict [] [] p) (some (.Attribute (.Name x p2) f apos)) pos.line X.env=pure false):PS X (.Assign [.Attribute (.Name x p2) f apos] (.Dict [] [] p) pos) (tS cl E own (zkS cn f i)):=by
 refine PS.imp (zpo (zdn hN hv hd hcd) zqF hs) ?_;rintro De σ H ⟨B,w,ρ,S,rfl,R,q⟩;intro pd hpd;unfold zkS at q;split at q
 ·rename_i n hi;obtain ⟨v,ev,rv⟩:=R.slots i false _ hi
  cases hS:S[n]? with
  | none=>rw [hS] at q;exact q.elim
  | some ob =>
   rw [hS] at q;dsimp only at q;split at q
   ·rename_i hc0;rw [yac] at hc0;obtain ⟨a,dx,fs,rfl,hmu,how,hH,hF⟩:=ziY R rv hS;rw [sm.kk];refine ⟨_,ev,a,_,dx,fs,rfl,?_,yar hc0.1 ▸ hk.1,yar hc0.1 ▸ hk.2,by rw [hF.len];exact yar hc0.2,?_⟩
    ·rw [zau (zaF hH hpd)];exact hH
    ·obtain ⟨R3,F3⟩:=R.newf (f:=f) hS hmu how hH hF hpd;rw [sm.pp,sm.ww];exact q σ _ R3 F3
   ·exact q.elim
 ·exact q.elim
end
noncomputable def zhT(C:Addr)(m:Str)(sp:Sp)(dvs:List V)(E:St->XK)(ta:TE)(t:TA):TE:=fun σ H Q=>ta σ H fun x H1=>∃a dx fs,x=.ref a/\H1 a=some (.ins C dx fs)/\fs.lookup m=none ∧
 t σ H1 fun vs H2=>sp (x::(vs++dvs)) H2 Q (E σ)
noncomputable def zpa(C:Addr)(sp:Sp)(dvs:List V)(E:St->XK)(t:TA):TE:=fun σ H Q=>t σ H fun vs H1=>∀x dx,H1 x=none->H1 dx=none->dx≠x →
 sp (.ref x::(vs++dvs)) (upd (upd H1 dx (.own x)) x (.ins C dx [])) (fun v H2=>v=.non/\Q (.ref x) H2) (E σ)
section
variable{X:Cx}{CX:CXT}{k:Nat}{f C:Addr}{fd:FuncData}{ps:List Str}{sp:Sp}{dvs:List V}{ds:List Value}{E:St->XK}{x m:Str}{p pos apos:Pos}{e o:Expr}{es:List Expr}{ta:TE}{t:TA}
def zob(he:PE X o ta)(c:Cls X.K C)(hm:Meth X.K C m f)(F:FnOk X.prog X.w X.K X.mg X.base CX k f fd ps sp)(hr:Room k X.A)(hb:zcA X.K fd ps ds)(hd:Vals dvs ds)(hx:zdK CX X E)(ha:PA X (e::es) t)
  (hst:starEach (e::es) X.env=(false,eval e X.env)::starEach es X.env) (hpl:(backTo pos (starEach es X.env)).any (·.1)=false)
  (ht:eval (.Call (.Attribute o m apos) (e::es) [] pos) X.env=(do
   let ov ← eval o X.env
   standAt apos.atName
   let (f,first) ← holding [ov] (getMethod ov m pl)
   callWith pos f first (backTo pos (starEach (e::es) X.env)) (backToKw pos (keywordEach [] X.env)))) :
  PE X (.Call (.Attribute o m apos) (e::es) [] pos) (zhT C m sp dvs E ta t):=by
 intro pins s σ H Q I h;refine PySem.W.methodCall_KW (pl:=pl) (thn (he pins s σ H _ I h) fun u s1 ⟨x,H1,I1,rx,a,dx,fs,ex,ea,l,q⟩=>?_) ht;subst ex;obtain rfl:u=Value.ref a:=rx;refine zgI I1 ea c hm l ?_;refine ycY (first:=[.ref a]) (h₀:=X.base) I.ok.mod.kin hm.kp (thn (ha pos pins s1 σ H1 _ I1 q) fun us s2 ⟨vs,H2,I2,r,q2⟩=>⟨I2.kIn,?_⟩) hst hpl;exact zg8 (us:=.ref a::us) (vs:=.ref a::vs) F hr hb hd hx I2 (.cons rfl r) q2
def zl9(he:PE X o ta)(c:Cls X.K C)(hm:Meth X.K C m f)(F:FnOk X.prog X.w X.K X.mg X.base CX k f fd ps sp)(hr:Room k X.A)(hb:zcA X.K fd ps ds)(hd:Vals dvs ds)(hx:zdK CX X E)
  (ht:eval (.Call (.Attribute o m apos) [] [] pos) X.env=(do
   let ov ← eval o X.env
   standAt apos.atName
   let (f,first) ← holding [ov] (getMethod ov m pl)
   callWith pos f first (backTo pos (starEach [] X.env)) (backToKw pos (keywordEach [] X.env)))) :
  PE X (.Call (.Attribute o m apos) [] [] pos) (zhT C m sp dvs E ta zvn):=by
 intro pins s σ H Q I h;refine PySem.W.methodCall_KW (pl:=pl) (thn (he pins s σ H _ I h) fun u s1 ⟨x,H1,I1,rx,a,dx,fs,ex,ea,l,q⟩=>?_) ht;subst ex;obtain rfl:u=Value.ref a:=rx;refine zgI I1 ea c hm l ?_;exact PySem.W.callWith_K0 (first:=[.ref a]) I1.kIn hm.kp (zg8 (us:=[.ref a]) (vs:=[.ref a]) F hr hb hd hx I1 (.cons rfl .nil) q)
def zlT(M:Mk X.K C f)(F:FnOk X.prog X.w X.K X.mg X.base CX k f fd ps sp)(hr:Room (k+1) X.A)(hb:zcA X.K fd ps ds)(hd:Vals dvs ds)
  (hx:zdK CX X E) (I:Inv X pins σ H s) (r:Vals vs us)
  (h:∀x dx,H x=none->H dx=none->dx≠x->sp (.ref x::(vs++dvs)) (upd (upd H dx (.own x)) x (.ins C dx [])) (fun v H2=>v=.non/\Q (.ref x) H2) (E σ)) :
  wpAny (model X.prog X.w) X.A (call (.ref C) us) (EP X pins σ Q) X.xe s:=by
 have hq:=h (s.heap.objs.size+1) s.heap.objs.size (I.hok.fresh (yb5 _)) (I.hok.fresh (yam _)) (yaz (ybF _));have I2:=Inv.made (C:=C) I;have r2:Vals (V.ref (s.heap.objs.size+1)::(vs++dvs)) (Value.ref (s.heap.objs.size+1)::(us++ds)):=.cons rfl (r.append hd)
 have hl:(Value.ref (s.heap.objs.size+1)::us++ds).length=ps.length:=by
  have e:=r2.length;rw [F.len _ _ _ _ hq] at e;exact e.symm
 refine wpAny_call (zos (f:=f) I.kIn M.makes M.init (ycq.mp M.fn) (ycv (F.run _ X.stack _ _ ⟨Value.ref (s.heap.objs.size+1)::us,[]⟩ (Value.ref (s.heap.objs.size+1)::(us++ds)) _ _ (E σ) (hr.make C us [])
  (I2.env0.make C us []) (hb _ (Value.ref (s.heap.objs.size+1)::us) I2.kIn hl) r2 hq) fun r s' hq'=>?_))
 cases r with
 | error e=>exact hx pins σ _ _ e s' I2 hq'
 | ok fl =>
  cases fl with
  | ret u =>
   obtain ⟨v,H',I3,rv,ev,q3⟩:=I2.after hq';subst ev;exact ⟨rv,⟨V.ref (s.heap.objs.size+1),H',I3,rfl,q3⟩⟩
  | next=>exact False.elim hq'
  | brk=>exact False.elim hq'
  | cont=>exact False.elim hq'
def zjX(M:Mk X.K C f)(F:FnOk X.prog X.w X.K X.mg X.base CX k f fd ps sp)(hr:Room (k+1) X.A)(hg:Gl X x)(hm:X.mg x=some (.ref C))(hb:zcA X.K fd ps ds)(hd:Vals dvs ds)(hx:zdK CX X E)
  (ha:PA X (e::es) t) (hdb:(x == ("__debug__":Str))=false) (he:starEach (e::es) X.env=(false,eval e X.env)::starEach es X.env) (hpl:(backTo pos (starEach es X.env)).any (·.1)=false) :
  PE X (.Call (.Name x p) (e::es) [] pos) (zpa C sp dvs E t):=by
 intro pins s σ H Q I h;refine ybS (zfS I hg hm ?_ hdb);refine ycY (h₀:=X.base) I.ok.mod.kin M.kp (thn (ha pos pins s σ H _ I h) fun us s1 ⟨vs,H1,I1,r,q⟩=>⟨I1.kIn,?_⟩) he hpl;exact zlT M F hr hb hd hx I1 r q
end
section
variable{cl:Cf}{E:St->XK}{fs:List Fe}{fo:Fe}{G:List D->Sto->Out D}{σ:St}{H:Hp}{Q:VK}{n:Nat}{c m:Str}{ρ:Env}
theorem zeQ:∀{fs:List Fe} {S S1:Sto} {ds:List D},zan fs ρ S=.ok ds S1->ds.length=fs.length
 | [],S,S1,ds,h=>by cases h;rfl
 | f::fs,S,S1,ds,h=>by
  unfold zan at h
  cases h1:f ρ S with
  | bad=>rw [h1] at h;cases h
  | exc c S2=>rw [h1] at h;cases h
  | ok d S2 =>
   rw [h1] at h;dsimp only [Out.bind] at h
   cases h2:zan fs ρ S2 with
   | bad=>rw [h2] at h;cases h
   | exc c S3=>rw [h2] at h;cases h
   | ok es S3=>rw [h2] at h;cases h;rw [yai,yai,zeQ h2]
def zmo(R:Rel cl B σ w ρ S)(hv:Shd cl w v d)(h:zdz c m d S=true):∃a dx fs,v=.ref a/\w.H a=some (.ins (cl c) dx fs)/\fs.lookup m=none:=by
 unfold zdz at h
 cases d with
 | ref n =>
  dsimp only at h
  cases hS:S[n]? with
  | none=>rw [hS] at h;cases h
  | some ob =>
   rw [hS] at h;dsimp only at h;rw [yac] at h;obtain ⟨a,dx,fs,rfl,_,_,hH,hF⟩:=ziY R hv hS;have e:=yar h.1;subst e;exact ⟨a,dx,fs,rfl,hH,hF.miss (by simpa using h.2)⟩
 | _=>cases h
def ztM(q:tE cl E (zbY c m G fo fs) σ H Q)(hn:fs.length+1=n):zhT (cl c) m (zhX cl n false G) [] E (tE cl E fo) (tAs cl E fs) σ H Q:=by
 obtain ⟨B,w,ρ,S,rfl,R,q⟩:=q;refine ⟨B,w,ρ,S,rfl,R,?_⟩;unfold zbY at q
 cases hfo:fo ρ S with
 | bad=>rwa [hfo] at q
 | exc c S1=>rwa [hfo] at q
 | ok d S0 =>
 rw [hfo] at q;intro v w0 R0 F0 h0;dsimp only [Out.bind] at q
 cases hok:zdz c m d S0 with
 | false=>rw [hok] at q;exact q.elim
 | true =>
 rw [hok,if_pos rfl] at q;obtain ⟨a,dx,fs',rfl,hH,hm⟩:=zmo R0 h0 hok;refine ⟨a,dx,fs',rfl,hH,hm,B,w0,ρ,S0,rfl,R0,?_⟩
 cases hf:zan fs ρ S0 with
 | bad=>rwa [hf] at q
 | exc c S1=>rw [hf] at q;exact fun w1 R1 F1=>q w1 R1 (F0.trans F1)
 | ok ds S1 =>
  rw [hf] at q;intro vs w1 R1 F1 h1;dsimp only at q;refine ⟨?_,w1.base,w1.inn,d::ds,S1,rfl,R1.wd.enter,?_,?_⟩
  ·rw [yaX,yai,h1.length,zeQ hf];exact hn
  ·rw [yaX];exact .cons ((h0.up F1).up (zcM w1)) (h1.up (zcM w1))
  cases hg:G (d::ds) S1 with
  | bad=>rwa [hg] at q
  | exc c S2 =>
   rw [hg] at q;intro w2 W2 F2;obtain ⟨R3,F3⟩:=R1.leave W2 F2;exact q (w1.back w2) R3 (F0.trans (F1.trans F3))
  | ok r S2 =>
   rw [hg] at q;intro v w2 W2 F2 r2;obtain ⟨R3,F3⟩:=R1.leave W2 F2;exact q v (w1.back w2) R3 (F0.trans (F1.trans F3)) (Shd.up (zdR W2) r2)
def ztL(q:tN cl E (zbY c m G fo fs) σ H Q)(hn:fs.length+1=n):zhT (cl c) m (zhX cl n true G) [] E (tE cl E fo) (tAs cl E fs) σ H Q:=by
 obtain ⟨B,w,ρ,S,rfl,R,q⟩:=q;refine ⟨B,w,ρ,S,rfl,R,?_⟩;unfold zbY at q
 cases hfo:fo ρ S with
 | bad=>rwa [hfo] at q
 | exc c S1=>rwa [hfo] at q
 | ok d S0 =>
 rw [hfo] at q;intro v w0 R0 F0 h0;dsimp only [Out.bind] at q
 cases hok:zdz c m d S0 with
 | false=>rw [hok] at q;exact q.elim
 | true =>
 rw [hok,if_pos rfl] at q;obtain ⟨a,dx,fs',rfl,hH,hm⟩:=zmo R0 h0 hok;refine ⟨a,dx,fs',rfl,hH,hm,B,w0,ρ,S0,rfl,R0,?_⟩
 cases hf:zan fs ρ S0 with
 | bad=>rwa [hf] at q
 | exc c S1=>rw [hf] at q;exact fun w1 R1 F1=>q w1 R1 (F0.trans F1)
 | ok ds S1 =>
  rw [hf] at q;intro vs w1 R1 F1 h1;dsimp only at q;refine ⟨?_,w1.base,w1.inn,d::ds,S1,rfl,R1.wd.enter,?_,?_⟩
  ·rw [yaX,yai,h1.length,zeQ hf];exact hn
  ·rw [yaX];exact .cons ((h0.up F1).up (zcM w1)) (h1.up (zcM w1))
  cases hg:G (d::ds) S1 with
  | bad=>rwa [hg] at q
  | exc c S2 =>
   rw [hg] at q;intro w2 W2 F2;obtain ⟨R3,F3⟩:=R1.leave W2 F2;exact q (w1.back w2) R3 (F0.trans (F1.trans F3))
  | ok r S2 =>
   rw [hg] at q;intro v w2 W2 F2 r2;obtain ⟨R3,F3⟩:=R1.leave W2 F2;obtain ⟨a,o,i,rfl,k1,k2,t⟩:=r2;have hfr:w1.base.Fr a=none:=(W2.own a _ k1).elim (fun z=>by cases z) fun z=>z
   have k3:(w1.back w2).ow a=some .far:=by
    show (if (w1.base.Fr a).isSome=true then w1.ow a else Root.out (w2.ow a))=_;rw [hfr,k1];rfl
   have hb:B.Fr a=none:=by
    cases z:B.Fr a with
    | none=>rfl
    | some u=>rw [zer R1.wd z] at hfr;cases hfr
   have hd:=zjk (w:=w1.back w2) (a:=a) (by rw [k3];exact yaU _);have:=q a o ((w1.back w2).del a) (R3.del k3 hb) (F0.trans (F1.trans (F3.trans hd))) (if_pos rfl) ((t.up (zdR W2)).up hd);rwa [zlp (w:=w1.back w2) k2] at this
def zxS(hdv:∀w,Shds cl w dvs dds)(q:tE cl E (eMk c dds G fs) σ H Q)(hn:fs.length+dds.length+1=n):zpa (cl c) (zhX cl n false G) dvs E (tAs cl E fs) σ H Q:=by
 obtain ⟨B,w,ρ,S,rfl,R,q⟩:=q;refine ⟨B,w,ρ,S,rfl,R,?_⟩;unfold eMk at q
 cases hf:zan fs ρ S with
 | bad=>rwa [hf] at q
 | exc c S1=>rwa [hf] at q
 | ok ds S1 =>
  rw [hf] at q;intro vs w1 R1 F1 h1;dsimp only [Out.bind] at q;intro x dx hx hdx ne;obtain ⟨R2,F2⟩:=R1.made (c:=c) hx hdx ne
  have hmu:(w1.addO x dx (cl c) S1.length).mu[S1.length]?=some x:=by
   show (w1.mu++[x])[S1.length]?=some x;rw [yap (by rw [R1.wd.len];exact yam _),R1.wd.len,ybw];rfl
  refine ⟨?_,(w1.addO x dx (cl c) S1.length).base,(w1.addO x dx (cl c) S1.length).inn,.ref S1.length::(ds++dds),S1++[⟨c,[]⟩],rfl,R2.wd.enter,?_,?_⟩
  ·rw [yai,yah,h1.length,zeQ hf,(hdv w1).length];exact hn
  ·exact .cons (.ref hmu) (((h1.up F2).up (zcM _)).append (hdv _))
  cases hg:G (.ref S1.length::(ds++dds)) (S1++[⟨c,[]⟩]) with
  | bad=>rwa [hg] at q
  | exc c S2 =>
   rw [hg] at q;intro w2 W2 F3;obtain ⟨R3,F4⟩:=R2.leave W2 F3;exact q ((w1.addO x dx _ S1.length).back w2) R3 (F1.trans (F2.trans F4))
  | ok r S2 =>
   rw [hg] at q;intro v w2 W2 F3 r2
   cases r with
   | non =>
    obtain ⟨R3,F4⟩:=R2.leave W2 F3;refine ⟨by cases r2;rfl,q (.ref x) ((w1.addO x dx _ S1.length).back w2) R3 (F1.trans (F2.trans F4)) (.ref (F4.mu _ _ hmu))⟩
   | _=>exact q.elim
end
end S2
namespace L2
open PySem PySem.Spec PyProof.Rows
section
variable{X:Cx}
noncomputable def zwJ(ns:List Int):Nat:=argBest (fun i j=>decide (ns.getD i 0<ns.getD j 0)) (ns.length-1)
def zzL(ns:List Int):Int:=ns.getD (zwJ ns) 0
end
end L2
namespace S2
open PySem PySem.Spec PyProof.Rows L2
noncomputable def zu3:Operator->Option (Int->Int->Int) | .Add=>some (·+·) | .Sub=>some (· - ·) | _=>none
noncomputable def zqn(i:Nat)(g:Int->Int->Int)(fe:Fe):Fs:=fun ρ S=>match ρ[i]? with
 | some (some (false,.int a))=>(match fe ρ S with
  | .ok (.int b) S1=>.nx (ρ.set i (some (false,.int (g a b)))) S1
  | .ok _ _=>.bad
  | .exc c S1=>.ex c ρ S1
  | .bad=>.bad)
 | _=>.bad
noncomputable def lrD:D->Option D | .int n=>if decide (0<=n/\n<=1000) then some (.lst ((List.range n.toNat).map fun (i:Nat)=>D.int (i:Int))) else none | _=>none
section
variable{cl:Cf}{X:Cx}{E:St->XK}{e:Expr}{fe f:Fe}{pos:Pos}{own:Bool}
def zsw(hop:zu3 op=some g)(hN:X.N.Nodup)(hi:X.N[i]?=some x)(hx:Loc X.env.scope x)(he:PE X e (tE cl E fe))(hf:X.fn x=true\/X.env.scope.names.lookup x=some .local):PS X (.AugAssign (.Name x p) op e pos) (tS cl E own (zqn i g fe)):=by
 have main:∀ti:TIp,PIp X op ti->(∀a b H Q,Q (.int (g a b)) H->ti (.int a) (.int b) H Q)->PS X (.AugAssign (.Name x p) op e pos) (tS cl E own (zqn i g fe)):=by
  intro ti ho hti;refine PS.imp (zs5 hN hi hx he ho hf) ?_;rintro De σ H ⟨B,w,ρ,S,rfl,R,q⟩;unfold zqn at q;split at q
  ·rename_i a ha;obtain ⟨v,ev,rv⟩:=R.slots i false _ ha;have rv':Shd cl w v (.int a):=rv;cases rv';refine ⟨_,ev,B,w,ρ,S,rfl,R,?_⟩
   cases hfe:fe ρ S with
   | bad=>rwa [hfe] at q
   | exc c S1=>rw [hfe] at q;exact fun w' R' F'=>q σ w' R' F'
   | ok d S1 =>
    rw [hfe] at q;intro y w1 R1 F1 h1
    cases d with
    | int b =>
     cases h1;exact hti a b _ _ (q _ w1 (R1.put (.int _)) F1)
    | _=>exact q.elim
  ·exact q.elim
 cases op<;>simp [zu3] at hop<;>subst hop
 ·exact main zxN zt7 fun a b H Q q=>⟨a,b,rfl,rfl,q⟩
 ·exact main zxM zt6 fun a b H Q q=>⟨a,b,rfl,rfl,q⟩
theorem ziB:∀l:List Nat,Shds cl w (l.map fun (i:Nat)=>V.int (i:Int)) (l.map fun (i:Nat)=>D.int (i:Int))
 | []=>.nil
 | a::l=>.cons (.int _) (ziB l)
theorem zlh:bootBuiltins "list" = some (.type "list"):=by decide +kernel
theorem zvE(hc:X.calm=true)(hg:Gl X "list")(hm:X.mg "list" = none)(hg2:Gl X "range")(hm2:X.mg "range" = none)(he:PE X e (tE cl E f))(hs:starEach [e] X.env=[(false,eval e X.env)]) :
  PE X (.Call (.Name "list" p) [.Call (.Name "range" p2) [e] [] pos2] [] pos) (tN cl E (eUn lrD f)):=by
 refine PE.imp (zeF (zhC hc) hg hm zlh (zcr (zs9 hg2 hm2 (zea he zgu hs) hs) zd6)) ?_;rintro σ H Q ⟨B,w,ρ,S,rfl,R,q⟩;refine ⟨B,w,ρ,S,rfl,R,?_⟩;unfold eUn at q
 cases hf:f ρ S with
 | bad=>rw [hf] at q;exact q.elim
 | exc c S1=>rw [hf] at q;simp only [zan,hf,Out.bind];exact q
 | ok d S1 =>
  rw [hf] at q;simp only [zan,hf,Out.bind];intro vs w1 R1 F1 sh;dsimp only [Out.bind] at q
  cases hl:lrD d with
  | none=>rw [hl] at q;exact q.elim
  | some r =>
   rw [hl] at q;unfold lrD at hl;split at hl
   ·rename_i n;split at hl
    ·rename_i hz;cases hl;have hz':=yar hz
     cases sh with
     | cons h1 hn =>
      cases hn;cases h1;refine ⟨n,rfl,hz'.1,hz'.2,fun pr hpr=>⟨pr,n.toNat,rfl,?_,by omega,fun l hl=>?_⟩⟩
      ·rw [show ((n.toNat:Nat):Int)=n by omega];exact zaM
      ·exact q l _ (w1.add pr (.rng 0 n)) (R1.grow (zaD hpr _)) (F1.trans (zaD hpr _).fut) hl (.lst (ziB _))
    ·cases hl
   ·cases hl
def zoj:OpR X (compareOp .Is) (fun x y H Q=>∃i j,x=.bl i/\y=.bl j/\Q (.bl (decide (i=j))) H):=by
 intro pins s σ H x y v u Q I rx ry h;obtain ⟨i,j,rfl,rfl,q⟩:=h;cases rx;cases ry;refine wpAny_is_plain (by rfl) ?_;refine ⟨.bl (decide (i=j)),H,I,?_,q⟩;show _=Value.bool _;congr 1
 cases i<;>cases j<;>rfl
noncomputable def zuY:D->D->Option D | .bl a,.bl b=>some (.bl (decide (a=b))) | _,_=>none
def ztx:OpD X cl (compareOp .Is) zuY:=by
 intro pins s σ H x y v u Q I rx ry h;obtain ⟨w,d,e,r,rfl,hx,hy,hg,q⟩:=h;unfold zuY at hg;split at hg
 ·cases hg;obtain rfl:=hx.blI;obtain rfl:=hy.blI;exact zoj pins s σ w.H _ _ v u Q I rx ry ⟨_,_,rfl,rfl,q _ w (Grow.refl _) (.bl _)⟩
 ·cases hg
def zv5:List D->Option D
 | [.lst l]=>(zcu l).bind fun ns=>if ns.isEmpty then none else some (.int (zzL ns))
 | ds=>zzM ds
end
end S2
namespace L2
open PySem PySem.Spec PyProof.Rows
section
variable{X:Cx}{pins:Z3}{σ:St}{H:Hp}{s:Shared}{a:Addr}{ps:List (Option Int×Int)}
def Inv.do_addr(I:Inv X pins σ H s)(h:H a=some (.ext (DO X.prog X.w a' ps))):a'=a:=by
 apply Classical.byContradiction;intro hne;obtain ⟨dp,_,st⟩:=I.hok a _ h;obtain ⟨vs,⟨o,es,ep,h1,h2,h3⟩,_⟩:=id dp;have dp2:=st s.heap (s.heap.update a' fun _=>{ cls:=.type "list",data:=.seq #[] }) dp (fun q e=>(Heap.get?_update_ne _ _ _ _ (fun z=>hne z.symm)).trans e);obtain ⟨vs2,⟨o2,es2,ep2,g1,g2,_⟩,_⟩:=dp2;rw [ycw (fun _=>{ cls:=.type "list",data:=.seq #[] }) h1 rfl] at g1;cases g1;exact absurd g2.1 (by decide)
def zpu(r:zbM (oV k) u):(zcL X.prog X.w).is k u=true:=by
 cases k with
 | none=>cases (show u=Value.none from r);rfl
 | some i =>
  obtain ⟨t,rfl⟩:=(show ∃t,u=Value.int i t from r);simp [zcL,zkZ,Value.isInt]
noncomputable abbrev DoP:(Option Int×Value)->(Option Int×Int)->Prop:=fun v p=>v.1=p.1/\∃t,v.2=.int p.2 t
noncomputable def zpm(ps:List (Option Int×Int))(k:Option Int)(v:Int):List (Option Int×Int):=if (ps.any fun p=>decide (p.1=k)) then ps.map (fun p=>if p.1=k then (p.1,v) else p) else ps++[(k,v)]
noncomputable def zeL(ps:List (Option Int×Int))(k:Option Int):Option Int:=(ps.find? fun p=>decide (p.1=k)).map (·.2)
def zul(r:Paired DoP vs ps)(k:Option Int):(vs.any fun v=>decide (v.1=k))=ps.any fun p=>decide (p.1=k):=by
 induction r with
 | nil=>rfl
 | cons h _ ih=>rw [List.any_cons,List.any_cons,ih,h.1]
def zrt(r:Paired DoP vs ps)(k:Option Int)(v:Int)(t:Tok):Paired DoP (vs.map fun x=>if x.1=k then (x.1,.int v t) else x) (ps.map fun p=>if p.1=k then (p.1,v) else p):=by
 induction r with
 | nil=>exact .nil
 | @cons x p xs ps h _ ih =>
  rw [yay,yay];refine .cons ?_ ih;obtain ⟨h1,h2⟩:=h
  by_cases e:p.1=k
  ·rw [if_pos e,if_pos (h1.trans e)];exact ⟨h1,t,rfl⟩
  ·rw [if_neg e,if_neg (fun z=>e (h1.symm.trans z))];exact ⟨h1,h2⟩
def zuk(r:Paired DoP vs ps)(k:Option Int)(v:Int)(t:Tok):Paired DoP (stored vs k (.int v t)) (zpm ps k v):=by
 unfold stored zpm;rw [zul r k];split
 ·exact zrt r k v t
 ·exact Paired.snoc r ⟨rfl,t,rfl⟩
def zuj(r:Paired DoP vs ps)(k:Option Int):(zeL ps k=none/\valueAt vs k=none)\/∃v t,zeL ps k=some v/\valueAt vs k=some (.int v t):=by
 induction r with
 | nil=>exact .inl ⟨rfl,rfl⟩
 | @cons x p xs ps h _ ih =>
  obtain ⟨h1,t,h2⟩:=h
  by_cases e:p.1=k
  ·refine .inr ⟨p.2,t,?_,?_⟩
   ·unfold zeL;rw [ybU,yaD e];rfl
   ·have e':x.1=k:=h1.trans e;simp [valueAt,ybU,e',h2]
  ·have e':¬ x.1=k:=fun z=>e (h1.symm.trans z)
   have b1:zeL (p::ps) k=zeL ps k:=by unfold zeL;rw [ybU,yaJ e]
   have b2:valueAt (x::xs) k=valueAt xs k:=by simp [valueAt,ybU,e']
   rw [b1,b2];exact ih
noncomputable def zsg(P:Program)(w:World):TE:=fun _ H Q=>∀p,H p=none->Q (.ref p) (upd H p (.ext (DO P w p [])))
def zod:PE X (.Dict [] [] pos) (zsg X.prog X.w):=fun pins s σ H Q I h=>by
 have hne:(s.heap.objs.size == sysModules)=false:=yaW.mpr (Ne.symm (yaz I.big));have dn:DO X.prog X.w s.heap.objs.size [] (s.heap.push { cls:=.type "dict",data:=.dict #[] }):=⟨[],Heap.DictOf.new s.heap,.nil,hne⟩;refine wpAny_Dict_empty ⟨.ref s.heap.objs.size,upd H s.heap.objs.size (.ext (DO X.prog X.w s.heap.objs.size [])),?_,rfl,h _ (I.hok.fresh (yam _))⟩;exact I.laid (a:=s.heap.objs.size) (t':=s.toks) (fun _ _ q=>yaf _ q) (yam _) ⟨dn,⟨_,yau _ rfl⟩,zkt⟩
def znO:zwU X (fun o i v H Q=>∃(a a':Addr) (k:Option Int) (n:Int) (ps:List (Option Int×Int)),o=.ref a/\i=oV k/\v=.int n/\H a=some (.ext (DO X.prog X.w a' ps))/\ps.length<=1000000/\Q (upd H a (.ext (DO X.prog X.w a' (zpm ps k n))))):=by
 intro pins s σ H o i v ov iv u Q I ro ri rv h;obtain ⟨a,a',k,n,ps,rfl,rfl,rfl,hx,hz,q⟩:=h;cases ro;obtain ⟨t,rfl⟩:=(show ∃t,u=Value.int n t from rv);obtain rfl:=I.do_addr hx;obtain ⟨⟨vs,dd,rel,hd⟩,_⟩:=I.hok _ _ hx;have hl:vs.length=ps.length:=Paired.length rel;refine wpAny_setItem_pairs (hsz:=by rw [hl];exact yak hz (by decide)) (zpu ri) dd fun h' dd' hs=>⟨_,?_,q⟩
 have he:∃q,h'.get? a'=some q:=let ⟨q,_,_,hq,_⟩:=dd';⟨q,hq⟩
 exact I.write (x:=a') (e:=a') (by rw [hx];trivial) (.inl rfl) (fun b o hb z=>(hs.2 b hb).trans z) he ⟨⟨_,dd',zuk rel k n t,hd⟩,he,zkt⟩
noncomputable def zsh(P:Program)(w:World)(td ty tx:TE):TE:=fun σ H Q=>td σ H fun x H1=>∃(a a':Addr) (ps:List (Option Int×Int)),x=.ref a/\H1 a=some (.ext (DO P w a' ps))/\ty σ H1 fun y H2=>tx σ H2 fun z H3=>∃k a2,y=oV k/\H3 a=some (.ext (DO P w a2 ps))/\Q (((zeL ps k).map V.int).getD z) H3
def zoe(ho:PE X o td)(he:PE X e ty)(hf:PE X f tx)(m:M2 X o "get" apos e f cpos):PE X (.Call (.Attribute o "get" apos) [e,f] [] cpos) (zsh X.prog X.w td ty tx):=by
 intro pins s σ H Q I h;refine wpAny_Call_method m.base m.few m.line PySem.F.plainAttrs_dict PySem.F.slot_dict_get PySem.F.type_dict_get (thn (ho pins s σ H _ I h) fun u s1 ⟨x,H1,I1,rx,a,a',ps,ex,d,q1⟩=>?_);subst ex;obtain rfl:u=Value.ref a:=rx;obtain rfl:=I1.do_addr d;obtain ⟨⟨vs,dd,_,_⟩,_⟩:=I1.hok _ _ d;refine ⟨dd.typeIs,fun b q=>?_,?_⟩
 ·cases q;obtain ⟨ob,_,_,h1,h2,_⟩:=dd;exact ⟨ob,h1,h2.2.1⟩
 rw [m.trees]
 refine yco rfl (ybZ (ycV (thn (he pins s1 σ H1 _ I1 q1) fun iv s2 ⟨y,H2,I2,ry,q2⟩ =>
  ycV (thn (hf pins s2 σ H2 _ I2 q2) fun fv s3 ⟨z,H3,I3,rz,k,a2,ey,d3,q3⟩=>Calls.spliced_nil ?_))))
 subst ey;obtain rfl:=I3.do_addr d3;obtain ⟨⟨vs3,dd3,rel,hd⟩,_⟩:=I3.hok _ _ d3;refine call_meetsIn PySem.F.slot_dict_get dd3.typeIs PySem.F.entry_dict_get (PySem.F.args_dict_get_3 _ _ _) (meets_dict_get_default (zcL X.prog X.w) _ (zpu ry) hd fv) ⟨_,dd3.mapOf,_,_,I3.tok _,?_,q3⟩
 rcases zuj rel k with ⟨e1,e2⟩ | ⟨v,t,e1,e2⟩
 ·rw [e1,e2];exact rz
 ·rw [e1,e2];exact ⟨t,rfl⟩
end
end L2
namespace S2
open PySem PySem.Spec PyProof.Rows L2
noncomputable def asO:D->Option (Option Int) | .non=>some none | .int i=>some (some i) | _=>none
def znr(h:Shd cl w v d)(e:asO d=some k):v=oV k:=by
 cases h<;>first | (cases e;done) | (cases e;rfl)
def psO:List (D×D)->Option (List (Option Int×Int))
 | []=>some []
 | (k,.int v)::l=>(asO k).bind fun k=>(psO l).bind fun ps=>some ((k,v)::ps)
 | _=>none
theorem zfL:∀ps:List (Option Int×Int),psO (ps.map fun p=>(oI p.1,.int p.2))=some ps
 | []=>rfl
 | (none,v)::ps=>by
  show (psO (ps.map _)).bind _=_;rw [zfL ps];rfl
 | (some i,v)::ps=>by
  show (psO (ps.map _)).bind _=_;rw [zfL ps];rfl
theorem zpp:∀{ds:List (D×D)} {ps:List (Option Int×Int)},psO ds=some ps->ds=ps.map fun p=>(oI p.1,.int p.2)
 | [],ps,h=>by cases h;rfl
 | (k,v)::l,ps,h=>by
  cases v with
  | int n =>
   obtain ⟨k',h1,h⟩:=Option.bind_eq_some_iff.mp (show ((asO k).bind fun k=>(psO l).bind fun ps=>some ((k,n)::ps))=some ps from h);obtain ⟨qs,h2,h⟩:=Option.bind_eq_some_iff.mp h;cases h;rw [zpp h2]
   cases k<;>first | (cases h1;done) | (cases h1;rfl)
  | _=>cases h
def zgQ(ps:List (Option Int×Int)):D:=.dic ((.bl true,.non)::odD ps)
noncomputable def zoE:D->Option (List (Option Int×Int)) | .dic ((.bl true,.non)::(.non,.non)::ds)=>psO ds | _=>none
def zoD(h:zoE d=some ps):d=zgQ ps:=by
 unfold zoE at h;split at h
 ·rw [zpp h];rfl
 ·cases h
def zhY(i:Nat)(ρ:Env):Option (Bool×List (Option Int×Int)):=match ρ[i]? with | some (some (o,d))=>(zoE d).map fun ps=>(o,ps) | _=>none
def zjL(h:zhY i ρ=some (o,ps)):ρ[i]?=some (some (o,zgQ ps)):=by
 unfold zhY at h;split at h
 ·rename_i o' d e
  cases hd:zoE d with
  | none=>rw [hd] at h;cases h
  | some x=>rw [hd] at h;cases h;rw [e,zoD hd]
 ·cases h
section
variable{X:Cx}{cl:Cf}{E:St->XK}{w:Wd}
def zpG(h:Exd cl w o (odD ps)):∃a',o=.ext (DO cl.P cl.wo a' ps):=by
 generalize hq:odD ps=ds at h
 cases h with
 | @od a ps' =>
  have e:=(List.cons.inj hq).2;have:=congrArg psO e;rw [zfL,zfL] at this;cases this;exact ⟨a,rfl⟩
def Rel.dco(R:Rel cl B σ w ρ S)(h:ρ[i]?=some (some (o,zgQ ps))):∃a a',σ[i]?=some (some (.ref a))/\(o=true->w.ow a=some (.slot i))/\w.H a=some (.ext (DO cl.P cl.wo a' ps)):=by
 obtain ⟨v,e1,r⟩:=R.slots i o _ h
 cases o with
 | false =>
  have r':Shd cl w v (.dic ((.bl true,.non)::odD ps)):=r;generalize hq:odD ps=q at r'
  cases r' with
  | dicK _ _ z=>cases z
  | dicX e _ x =>
   rw [<-hq] at x;obtain ⟨a',rfl⟩:=zpG x;exact ⟨_,a',e1,(fun z=>nomatch z),e⟩
 | true =>
  obtain ⟨a,o,rfl,h1,h2,t⟩:=r;have t':Top cl w o (.dic ((.bl true,.non)::odD ps)):=t;generalize hq:odD ps=q at t'
  cases t' with
  | dicK z=>cases z
  | dicX x =>
   rw [<-hq] at x;obtain ⟨a',rfl⟩:=zpG x;exact ⟨a,a',e1,fun _=>h1,h2⟩
def zoO:Fe:=fun _ S=>.ok (zgQ []) S
def zi4(sm:Same' cl X):PE X (.Dict [] [] pos) (tN cl E zoO):=PE.imp zod fun σ H Q ⟨B,w,ρ,S,e,R,q⟩=>by
 subst e;intro p hp;rw [sm.pp,sm.ww];exact q p _ w R (Fut.refl _) hp (.dicX (ds:=odD []) .od)
def ziM(i:Nat)(f g:Fe):Fe:=fun ρ S=>match zhY i ρ with
 | some p=>(f ρ S).bind fun k S1=>(g ρ S1).bind fun z S2=>(match asO k with | some j=>.ok (((zeL p.2 j).map D.int).getD z) S2 | none=>.bad)
 | none=>.bad
def zi5(i:Nat)(fk fe:Fe):Fs:=fun ρ S=>match zhY i ρ with
 | some (true,ps)=>(match fe ρ S with
  | .ok d S1=>(match fk ρ S1 with
   | .ok k S2=>(match asO k,d with
    | some j,.int v=>if zbb ps.length then .nx (ρ.set i (some (true,zgQ (zpm ps j v)))) S2 else .bad
    | _,_=>.bad)
   | .exc c S2=>.ex c ρ S2 | .bad=>.bad)
  | .exc c S1=>.ex c ρ S1 | .bad=>.bad)
 | _=>.bad
variable{own:Bool}{a b e:Expr}{f g fe fk:Fe}{pos pos':Pos}{i:Nat}{x:Str}{ap cp:Pos}
def zql(sm:Same' cl X)(hN:X.N[i]?=some x)(hv:Vis X.env.scope x)(hd:(x == ("__debug__":Str))=false)(hcd:(x == ("__classdict__":Str))=false)(hf:PE X a (tE cl E f))(hg:PE X b (tE cl E g))(m:M2 X (.Name x pos') "get" ap a b cp) :
  PE X (.Call (.Attribute (.Name x pos') "get" ap) [a,b] [] cp) (tE cl E (ziM i f g)):=by
 refine PE.imp (zoe (zdn hN hv hd hcd) hf hg m) ?_;rintro σ H Q ⟨B,w,ρ,S,rfl,R,q⟩;unfold ziM at q
 cases hs:zhY i ρ with
 | none=>rw [hs] at q;exact q.elim
 | some p =>
  obtain ⟨o,ps⟩:=p;rw [hs] at q;have hρ:=zjL hs;obtain ⟨ad,a',e1,h1,h2⟩:=R.dco hρ;refine ⟨_,e1,ad,a',ps,rfl,by rw [sm.pp,sm.ww];exact h2,B,w,ρ,S,rfl,R,?_⟩
  cases hfv:f ρ S with
  | bad=>rwa [hfv] at q
  | exc c S1=>rwa [hfv] at q
  | ok k S1 =>
   rw [hfv] at q;dsimp only [Out.bind] at q;intro y w1 R1 F1 sy;refine ⟨B,w1,ρ,S1,rfl,R1,?_⟩
   cases hgv:g ρ S1 with
   | bad=>rwa [hgv] at q
   | exc c S2=>rw [hgv] at q;exact fun w2 R2 F2=>q w2 R2 (F1.trans F2)
   | ok z S2 =>
    rw [hgv] at q;dsimp only at q;intro zv w2 R2 F2 sz
    cases hk:asO k with
    | none=>rw [hk] at q;exact q.elim
    | some j =>
     rw [hk] at q;dsimp only at q;have ey:=znr sy hk;subst ey;obtain ⟨ad',a2,e1',_,h2'⟩:=R2.dco hρ;rw [e1] at e1';cases e1';refine ⟨j,a2,rfl,by rw [sm.pp,sm.ww];exact h2',?_⟩
     cases hl:zeL ps j with
     | none=>rw [hl] at q;exact q zv w2 R2 (F1.trans F2) sz
     | some n=>rw [hl] at q;exact q (.int n) w2 R2 (F1.trans F2) (.int n)
def zp6(sm:Same' cl X)(hN:X.N[i]?=some x)(hv:Vis X.env.scope x)(hd:(x == ("__debug__":Str))=false)(hcd:(x == ("__classdict__":Str))=false)(hk:PE X a (tE cl E fk))(he:PE X e (tE cl E fe))(sw:swapsWithSole [.Subscript (.Name x pos') a p3] e pos.line X.env=pure false)(sw2:swappedStores [.Subscript (.Name x pos') a p3] e X.env=pure none)
  (ha:∀v,assign (.Subscript (.Name x pos') a p3) X.env v=(do
   let ov ← holding [v] (eval (.Name x pos') X.env)
   let iv ← holding [v,ov] (eval a X.env)
   standAt p3
   holding [v,ov,iv] (setItem ov iv v)
   release [v,ov,iv] [])) :
  PS X (.Assign [.Subscript (.Name x pos') a p3] e pos) (tS cl E own (zi5 i fk fe)):=by
 refine PS.imp (zjU he (zpr (zdn hN hv hd hcd) hk znO ha) sw sw2 rfl) ?_;rintro De σ H ⟨B,w,ρ,S,rfl,R,q⟩;unfold zi5 at q
 cases hs:zhY i ρ with
 | none=>rw [hs] at q;exact q.elim
 | some p =>
  obtain ⟨o,ps⟩:=p
  cases o with
  | false=>rw [hs] at q;exact q.elim
  | true =>
   rw [hs] at q;have hρ:=zjL hs;refine ⟨B,w,ρ,S,rfl,R,?_⟩
   cases hev:fe ρ S with
   | bad=>rwa [hev] at q
   | exc c S1=>rw [hev] at q;exact fun w' R' F'=>q σ w' R' F'
   | ok d S1 =>
    rw [hev] at q;intro v w1 R1 F1 sv;obtain ⟨ad,a',e1,_,_⟩:=R1.dco hρ;refine ⟨_,e1,B,w1,ρ,S1,rfl,R1,?_⟩;dsimp only at q
    cases hkv:fk ρ S1 with
    | bad=>rwa [hkv] at q
    | exc c S2=>rw [hkv] at q;exact fun w' R' F'=>q σ w' R' (F1.trans F')
    | ok k S2 =>
     rw [hkv] at q;intro y w2 R2 F2 sy;dsimp only at q
     cases hk':asO k with
     | none=>rw [hk'] at q;exact q.elim
     | some j =>
      rw [hk'] at q
      cases d with
      | int n =>
       dsimp only at q;split at q
       ·rename_i hsm;have ey:=znr sy hk';subst ey;cases sv;obtain ⟨ad',a2,e1',ho,h2'⟩:=R2.dco hρ;rw [e1] at e1';cases e1';refine ⟨ad,a2,j,n,ps,rfl,rfl,rfl,by rw [sm.pp,sm.ww];exact h2',yak (yar hsm) (by decide),?_⟩;rw [sm.pp,sm.ww];exact q σ _ (R2.mut (d0:=.non) e1 (ho rfl) (.dicX (ds:=odD (zpm ps j n)) .od)) ((F1.trans F2).trans (zei (by rw [ho rfl];exact yaU _)))
       ·exact q.elim
      | _=>exact q.elim
end
noncomputable def ziw(i j:Nat)(ρ:Env):Option (List D×List D):=match ρ[i]?,ρ[j]? with
 | some (some (true,.lst l)),some (some (true,.lst m))=>if i=j then none else some (l,m)
 | _,_=>none
def zmz(h:ziw i j ρ=some p):ρ[i]?=some (some (true,.lst p.1))/\ρ[j]?=some (some (true,.lst p.2))/\i≠j:=by
 unfold ziw at h;split at h
 ·rename_i e1 e2;split at h
  ·cases h
  ·rename_i hn;cases h;exact ⟨e1,e2,hn⟩
 ·cases h
def zeb(i j:Nat)(f:Fe):Fs:=fun ρ S=>match ziw i j ρ with
 | some p=>(match f ρ S with
  | .ok d S1=>(match d with
   | .int q=>(match (if 0<=q/\zbb p.1.length=true/\zbb p.2.length=true then p.2[q.toNat]? else none) with
    | some y=>.nx ((ρ.set j (some (true,.lst (p.2.eraseIdx q.toNat)))).set i (some (true,.lst (p.1++[y])))) S1
    | none=>.bad)
   | _=>.bad)
  | .exc c S1=>.ex c ρ S1 | .bad=>.bad)
 | none=>.bad
section
variable{X:Cx}{cl:Cf}{E:St->XK}{own:Bool}{e:Expr}{f:Fe}{pos px py:Pos}{i j:Nat}{x y:Str}{ap cp ap2 cp2:Pos}{w:Wd}
theorem zgt:∀{vs:List V} {ds:List D} (k:Nat),Shds cl w vs ds->Shds cl w (vs.eraseIdx k) (ds.eraseIdx k)
 | _,_,k,.nil=>by cases k<;>exact .nil
 | _,_,0,.cons _ t=>t
 | _,_,k+1,.cons h t=>.cons h (zgt k t)
theorem zqc(hN:X.N[i]?=some x)(hv:Vis X.env.scope x)(hd:(x == ("__debug__":Str))=false)(hcd:(x == ("__classdict__":Str))=false)(hN2:X.N[j]?=some y)(hv2:Vis X.env.scope y)(hd2:(y == ("__debug__":Str))=false)(hcd2:(y == ("__classdict__":Str))=false)(he:PE X e (tE cl E f))
  (hpl:zcE e=true) (hln:(ap.endLine == cp.line)=true) (hln2:(ap2.endLine == cp2.line)=true):PS X (.Expr (.Call (.Attribute (.Name x px) "append" ap) [.Call (.Attribute (.Name y py) "pop" ap2) [e] [] cp2] [] cp) pos) (tS cl E own (zeb i j f)):=by
 have hin:=zqG (es:=[]) (apos:=ap2) (cpos:=cp2) yce PySem.F.slot_list_pop PySem.F.type_list_pop zoq (zdn (pos:=py) hN2 hv2 hd2 hcd2) (zcr he zd6 (zbN hpl)) (hfew:=ziG (by simp [hpl]) (by simp)) (hline:=hln2) (hs:=zbN hpl) (hplain:=rfl);refine PS.imp (zjc (zqG (es:=[]) yce PySem.F.slot_list_append PySem.F.type_list_append zit (zdn hN hv hd hcd) (zcr hin zd6 rfl) (hfew:=ziG rfl (by simp)) (hline:=hln) (hs:=rfl) (hplain:=rfl)) rfl) ?_;rintro De σ H ⟨B,w,ρ,S,rfl,R,q⟩;unfold zeb at q
 cases hl2:ziw i j ρ with
 | none=>rw [hl2] at q;exact q.elim
 | some p =>
  obtain ⟨l,m⟩:=p;rw [hl2] at q;obtain ⟨hi,hj,hij⟩:=zmz hl2;dsimp only at hi hj q;obtain ⟨a,xs,e1,h1,h2,t⟩:=R.list hi;obtain ⟨b,ys,e2,g1,g2,t2⟩:=R.list hj;refine ⟨_,e1,.inl ⟨rfl,_,SqL.of h2⟩,_,e2,.inl ⟨rfl,_,SqL.of g2⟩,B,w,ρ,S,rfl,R,?_⟩
  cases hf:f ρ S with
  | bad=>rwa [hf] at q
  | exc c S1=>rw [hf] at q;exact fun w' R' F'=>q σ w' R' F'
  | ok d S1 =>
   rw [hf] at q;intro v w' R' F' h'
   cases d with
   | int k =>
    cases h';dsimp only at q
    cases hy:(if 0<=k/\zbb l.length=true/\zbb m.length=true then m[k.toNat]? else none) with
    | none=>rw [hy] at q;exact q.elim
    | some d =>
     rw [hy] at q;dsimp only at q;split at hy
     ·rename_i hb;obtain ⟨b',ys',e2',g1',g2',t2'⟩:=R'.list hj;rw [e2] at e2';cases e2';have hlt:k.toNat<m.length:=(yan.mp hy).1;have hlen:=t2'.length;have hys:ys'[k.toNat]?=some (ys'[k.toNat]'(by omega)):=yaa (by omega);obtain ⟨d',ed,sd⟩:=t2'.get hys;rw [hy] at ed;cases ed;have hm:=zbn hb.2.2;refine ⟨b,ys',k,k.toNat,_,rfl,rfl,g2',by omega,by have:m.length<=100000:=yar hb.2.2;omega,?_,hys,?_⟩
      ·unfold seqIndex?;rw [if_neg (show ¬ k<0 by omega)];dsimp only;rw [show (decide (0<=k)&&decide (k<((ys'.length:Nat):Int)))=true by rw [yac,ybh,ybh];omega];rfl
      have ff:Fut w' (w'.mut b (.lst (ys'.eraseIdx k.toNat))):=zei (by rw [g1'];exact yaU _);have R2:=R'.mut (d0:=.non) e2 g1' (.lst (zgt k.toNat t2'))
      have hi2:(ρ.set j (some (true,D.lst (m.eraseIdx k.toNat))))[i]?=some (some (true,.lst l)):=by rw [yaQ (fun z=>hij z.symm)];exact hi
      obtain ⟨a2,xs2,e12,h12,h22,t12⟩:=R2.list hi2;rw [e1] at e12;cases e12;refine ⟨a,xs2,_,rfl,rfl,h22,by rw [t12.length];exact zjK hb.2.1,?_⟩;exact q σ _ (R2.mut (d0:=.non) e1 h12 (.lst (t12.append (.cons (sd.up ff) .nil)))) (F'.trans (ff.trans (zei (by rw [h12];exact yaU _))))
     ·cases hy
   | _=>exact q.elim
end
noncomputable def zkR(i j:Nat)(f:Fe):Fs:=fun ρ S=>match f ρ S with
 | .ok d S1=>.nx ((ρ.set i (some (true,d))).set j (some (true,.lst []))) S1
 | .exc c S1=>.ex c ρ S1 | .bad=>.bad
noncomputable def zwG(nm:List (Str×NameKind))(ts:List Expr):Bool:=ts.any fun | .Name x _=>!decide (nm.lookup x=some .local) | _=>false
theorem zuc{α β:Type}(f:α->Option β):∀(l:List α),(∃a∈l,f a=none)->(l.filterMap f).length<l.length
 | [],h=>by obtain ⟨_,h,_⟩:=h;cases h
 | a::l,h=>by
  rw [yai,yb3];have hle:=List.length_filterMap_le f l
  cases ha:f a with
  | none=>exact Nat.lt_succ_of_le hle
  | some b =>
   show (l.filterMap f).length+1<_;obtain ⟨c,hc,e⟩:=h
   rcases yaA.mp hc with rfl | hc
   ·rw [ha] at e;cases e
   ·have:=zuc f l ⟨c,hc,e⟩;omega
section
variable{X:Cx}{cl:Cf}{E:St->XK}{own:Bool}{nm:List (Str×NameKind)}
def znc(hs:X.env.scope.names=nm)(h:zwG nm ts=true):swappedStores [.Tuple ts k p] (.Tuple vs k2 p2) X.env=pure none:=by
 unfold swappedStores;dsimp only;split
 ·rfl
 ·split
  ·rfl
  ·split
   ·rfl
   ·rename_i hn;exfalso;apply hn;rw [ycN];left;rw [bne_iff_ne];apply yaz;apply zuc;unfold zwG at h;rw [ycA] at h;obtain ⟨x,hx,hb⟩:=h;refine ⟨x,hx,?_⟩
    cases x with
    | Name y q =>
     have hb':¬ nm.lookup y=some .local:=by simpa using hb
     have:¬ X.env.kindOf y=some .local:=by unfold Env.kindOf;rw [hs];exact hb'
     simp [this]
    | _=>cases hb
def zp1:swapsWithSole [.Tuple es kk p] e l env=pure false:=by cases e<;>rfl
variable{i j h:Nat}{x y z:Str}{a e:Expr}{f f1:Fe}{px py pz pt pt2 p2 pos:Pos}{kt k2:Nat}
def zvT(hc:X.calm=true)(hN:X.N.Nodup)(hi:X.N[i]?=some x)(hj:X.N[j]?=some y)(hx:L2.Loc X.env.scope x)(hy:L2.Loc X.env.scope y)(hfx:X.fn x=true\/X.env.scope.names.lookup x=some .local)(hfy:X.fn y=true\/X.env.scope.names.lookup y=some .local)(he:PE X e (tN cl E f))(hpl:zcE e=true)(hw:swappedStores [.Tuple [.Name x px,.Name y py] kt pt] (.Tuple [e,.List [] p2] k2 pt2) X.env=pure none) :
  PS X (.Assign [.Tuple [.Name x px,.Name y py] kt pt] (.Tuple [e,.List [] p2] k2 pt2) pos) (tS cl E own (zkR i j f)):=by
 refine PS.imp (zjU (zps (zcr he (zcr (zpt zd6) zd6 (zbN rfl)) (zbN hpl))) (zpq hc (zhg (zhh hN hi hx hfx) (zhg (zhh hN hj hy hfy) zl8))) zp1 hw rfl) ?_;rintro De σ H ⟨B,w,ρ,S,rfl,R,q⟩;unfold zkR at q;refine ⟨B,w,ρ,S,rfl,R,?_⟩
 cases hf:f ρ S with
 | bad=>rwa [hf] at q
 | exc c S1=>rw [hf] at q;exact fun w' R' F'=>q σ w' R' F'
 | ok d S1 =>
  rw [hf] at q;intro q1 o w1 R0 F0 h1 t1;refine ⟨by show (0:Nat)<=sizeLine;decide,fun q2 h2=>?_⟩;refine ⟨by show (2:Nat)<=sizeLine;decide,fun q3 h3=>?_⟩;have R1:=R0.own (i:=i) (d:=d) h1 t1;have F1:=zdC (w:=w1) (p:=q1) (o:=o) (r:=.slot i) h1;have R2:=R1.own (i:=j) (d:=.lst []) (p:=q2) (o:=.lst []) h2 (.lst .nil);have F2:=zdC (w:=w1.addAs q1 o (.slot i)) (p:=q2) (o:=.lst []) (r:=.slot j) h2;have gr:=zaD (w:=(w1.addAs q1 o (.slot i)).addAs q2 (.lst []) (.slot j)) (p:=q3) h3 (.tup [V.ref q1,V.ref q2]);exact ⟨q3,[.ref q1,.ref q2],rfl,.inl (.inl zaM),rfl,.ref q1,[.ref q2],rfl,.ref q2,[],rfl,rfl,q _ _ (R2.grow gr) (F0.trans ((F1.trans F2).trans gr.fut))⟩
end
end S2
namespace L2
open PySem PySem.Spec PyProof.Rows SeqAt
theorem zgY(l:Addr)(items:Array Value)(n:Nat)(dd:Option Addr)(sl:Array (Option Value))(x:Value)(e:Value->Bool)(j:Nat)(hj:j<items.size)(hit:e items[j]=true)(hno:∀m (hm:m<items.size),m<j->e items[m]=false) :
  Meets (Builtin.«tuple.index» ⟨[.ref l,x],[]⟩)
   (fun A R s=>s.heap.get? l=some { cls:=.type "tuple",dict:=dd,data:=.seq items n,slots:=sl }/\(∀y,y∈items->EqAt A.in1 s y x (e y))/\R (.ok (.ret (.int j s.toks))) { s with toks:=s.toks+1 }) :=
 .of_wp fun prog w A R s h=>by
  obtain ⟨hp,g,d,tk,os⟩:=s;obtain ⟨hl,he,h⟩:=h;unfold Builtin.«tuple.index»;simp only [Std.Legacy.Range.forIn_eq_forIn_range',Std.Legacy.Range.size,Nat.sub_zero,Nat.add_sub_cancel,Nat.div_one]
  wp_walk using wpAny_loadPart' hl,ycy _ (fun zcj b s'=>b.1=none/\s'=⟨hp,g,d,tk,os⟩/\∃i,i<=j/\zcj=List.range' i (items.size-i)) _
  case turn =>
   rintro y zcj b s' ⟨hb,rfl,i,hi,hr⟩
   have e0:items.size-i=(items.size-(i+1))+1:=by omega
   rw [e0,List.range'_succ] at hr
   injection hr with h1 h2
   subst h1
   have hlt:y<items.size:=by omega
   rw [Array.getElem?_eq_getElem hlt];refine yad (he _ (Array.getElem_mem hlt) prog w _ _ ?_)
   by_cases hyj:y=j
   ·subst hyj;rw [hit]
    wp_walk
    exact ⟨_,rfl,h⟩
   ·rw [hno y hlt (by omega)]
    wp_walk
    exact ⟨rfl,rfl,y+1,by omega,h2⟩
  case fin =>
   rintro ⟨b1,b2⟩ s' ⟨hb',rfl,i,hz,hR⟩;exfalso
   have e0:items.size-i=(items.size-(i+1))+1:=by omega
   rw [e0,List.range'_succ] at hR;cases hR
  case h =>
   exact ⟨rfl,rfl,0,ybn _,by simp⟩
section
variable{X:Cx}{pins:Z3}{σ:St}{H:Hp}{s:Shared}{l:Addr}{xs:List V}
def Inv.tupM(I:Inv X pins σ H s)(hH:H l=some (.tup xs)):∃(its:List Value) (n:Nat) (sl:Array (Option Value)),Vals xs its/\s.heap.get? l=some { cls:=.type "tuple",dict:=none,data:=.seq its.toArray n,slots:=sl }:=by
 obtain ⟨_,its,r,o,h1,h2,n,h3,h4⟩:=(show zb8 X.prog X.w H s.heap l (.tup xs) from I.hok l _ hH);obtain ⟨c,d,da,sl⟩:=o;cases h2;cases h3;cases h4;exact ⟨its,n,sl,r,h1⟩
noncomputable def zzB(r:V->List V->Hp->VK->Prop)(to:TE)(t:TA):TE:=fun σ H Q=>to σ H fun x H1=>(∃a xs,x=.ref a/\H1 a=some (.tup xs))/\t σ H1 fun xs H2=>r x xs H2 Q
variable{o e:Expr}{es:List Expr}{to:TE}{t:TA}{name:Str}{apos cpos:Pos}{id:String}{r:V->List V->Hp->VK->Prop}
def ztf(slot:Slot "tuple" name id)(hty:typeOf (.builtin id)=pure (.type "method_descriptor"))(hm:MtM X id r)(ho:PE X o to)(ha:PA X (e::es) t)
  (hbase:attributeBase o name X.env (eval o X.env)=eval o X.env:=by rfl)
  (hfew:((backTo cpos (starEach (e::es) X.env)).all (fun x=>!x.1)&&(backToKw cpos (keywordEach [] X.env)).all (fun x=>x.1.isSome)
   && decide ((e::es).length+([]:List Keyword).length+(if ([]:List Keyword).isEmpty then 0 else 1)<30))=true:=by rfl)
  (hline:(apos.endLine == cpos.line)=true:=by rfl) (hs:starEach (e::es) X.env=(false,eval e X.env)::starEach es X.env:=by rfl) (hplain:(backTo cpos (starEach es X.env)).any (·.1)=false:=by rfl) :
  PE X (.Call (.Attribute o name apos) (e::es) [] cpos) (zzB r to t):=by
 intro pins s σ H Q I h;refine wpAny_Call_method_late hbase hfew hline rfl (thn (ho pins s σ H _ I h) fun v s1 ⟨x,H1,I1,r1,ty,q1⟩=>?_);obtain ⟨a,ys,rfl,hH⟩:=ty;obtain ⟨its,n,sl,_,hg⟩:=I1.tupM hH;cases (show v=Value.ref a from r1);refine ⟨"tuple",id,PySem.F.plainAttrs_tuple,slot,hty,⟨_,hg,rfl⟩,fun b z=>by cases z;exact ⟨_,hg,rfl⟩,?_⟩;have hA:=ha cpos pins s1 σ H1 _ I1 q1;rw [hs] at hA ⊢;refine yco (by show (false||(backTo cpos (starEach es X.env)).any (·.1))=false;rw [hplain]<;>rfl) (ybZ ?_);exact thn hA fun us s2 ⟨vs,H2,I2,r2,q2⟩=>hm pins s2 σ H2 (.ref a) vs (.ref a) us Q I2 (show zbM (.ref a) (.ref a) from rfl) r2 q2
end
end L2
namespace S2
open PySem PySem.Spec PyProof.Rows L2
section
variable{X:Cx}{cl:Cf}{E:St->XK}{e:Expr}{f:Fe}{pos':Pos}
noncomputable def MtT(X:Cx)(cl:Cf)(id:String)(g:List D->D->Option D):Prop:=MtM X id fun x vs H Q=>∃(a:Addr) (xs:List V) (l:List D) (w:Wd) (d:D) (v:V) (r:Int),w.H=H/\x=.ref a/\vs=[v]/\w.H a=some (.tup xs)/\Shds cl w xs l/\TopV cl w v d/\g l d=some (.int r)/\Q (.int r) H
theorem zmu(hK:X.K=cl.K)(hu:X.A.units+64<cLine):MtT X cl "tuple.index" zd8:=by
 intro pins s σ H x vs v us Q I rx rv h;obtain ⟨a,xs,l,w,d,v',r,rfl,rfl,rfl,hH,sh,tv,hg,q⟩:=h;unfold zd8 at hg;split at hg
 ·rename_i hf;cases hg;simp only [yac,ybh] at hf;obtain ⟨⟨⟨f1,f2⟩,f3⟩,f4⟩:=hf;cases rx;obtain ⟨u,rfl,ru⟩:=rv.one;obtain ⟨bs,rb⟩:=zjb I hK tv f1 ru;obtain ⟨its,n,sl,r,e⟩:=I.tupM hH;obtain ⟨as,ra⟩:=zez I hK sh f2 r;have hlen:=zgy ra
  have hlt:l.findIdx (zfq · d)<l.length:=by
   rw [List.findIdx_lt_length];unfold zj7 at f4;rwa [ycA] at f4
  refine ycH F.slot_tuple_index ⟨_,e,rfl⟩ F.entry_tuple_index (F.args_tuple_index_2 _ _) (zgY a _ n none sl u (fun y=>(SeqAt.readOf s.heap y).eqv d.py) (l.findIdx (zfq · d)) (by rw [yag];omega) ?_ ?_) ⟨e,fun y hy=>zc2 hu rb f1 ra f2 y hy,?_⟩
  ·obtain ⟨e',h1,h2⟩:=ze1 (d:=d) ra f2 (l.findIdx (zfq · d)) (by omega);simp only [List.getElem_toArray];rw [h2];rw [yaa hlt] at h1;cases h1;exact List.findIdx_getElem (w:=hlt)
  ·intro m hm hmj
   have lm:m<its.length:=by rwa [yag] at hm
   obtain ⟨e',h1,h2⟩:=ze1 (d:=d) ra f2 m lm;simp only [List.getElem_toArray];rw [h2];rw [yaa (by omega)] at h1;cases h1;exact List.not_of_lt_findIdx hmj
  ·exact ⟨.int _,w.H,I.tok _,⟨_,rfl⟩,q⟩
 ·cases hg
def ziL(i:Nat)(f:Fe):Fe:=fun ρ S=>match ρ[i]? with | some (some (false,.tup l))=>(f ρ S).bind fun d S1=>Out.of (zd8 l d) S1 | _=>.bad
def zrh:∀(l:List D) (d r:D),zd8 l d=some r->∃n,r=.int n:=by
 intro l d r h;unfold zd8 at h;split at h
 ·cases h;exact ⟨_,rfl⟩
 ·cases h
def Rel.tupAny{B:Base}{σ:St}{w:Wd}{ρ:Env}{S:Sto}{i:Nat}{l:List D}(R:Rel cl B σ w ρ S)(h:ρ[i]?=some (some (false,.tup l))):∃a xs,σ[i]?=some (some (.ref a))/\w.H a=some (.tup xs)/\Shds cl w xs l:=by
 obtain ⟨v,e1,sh⟩:=R.slots i false _ h
 cases sh with
 | tup ep k r=>exact ⟨_,_,e1,ep,r⟩
def zqj(hK:X.K=cl.K)(hu:X.A.units+64<cLine)
  (hN:X.N[i]?=some x) (hv:Vis X.env.scope x) (hd:(x == ("__debug__":Str))=false) (hcd:(x == ("__classdict__":Str))=false) (he:PE X e (tH cl E f)) (hpl:zcE e=true) (hln:(ap.endLine == cp.line)=true) :
  PE X (.Call (.Attribute (.Name x pos') "index" ap) [e] [] cp) (tE cl E (ziL i f)):=by
 refine PE.imp (ztf (es:=[]) PySem.F.slot_tuple_index PySem.F.type_tuple_index (zmu hK hu) (zdn hN hv hd hcd) (zlK he zph (zbN hpl)) (hfew:=ziG (by simp [hpl]) (by simp)) (hline:=hln) (hs:=zbN hpl) (hplain:=rfl)) ?_;rintro σ H Q ⟨B,w,ρ,S,rfl,R,q⟩
 have key:(∃l,ρ[i]?=some (some (false,.tup l)))\/ziL i f ρ S=.bad:=by
  unfold ziL;split
  ·rename_i l hl;exact .inl ⟨l,hl⟩
  ·exact .inr rfl
 rcases key with ⟨l,hl⟩ | hb
 ·have e':ziL i f ρ S=(f ρ S).bind fun d S1=>Out.of (zd8 l d) S1:=by unfold ziL;rw [hl]
  rw [e'] at q;obtain ⟨a,xs,e1,h2,t⟩:=R.tupAny hl;refine ⟨_,e1,⟨_,_,rfl,h2⟩,B,w,ρ,S,rfl,R,?_⟩
  cases hf:f ρ S with
  | bad=>rw [hf] at q;exact q.elim
  | exc c S1 =>
   rw [hf] at q;simp only [zan,hf,Out.bind];exact q
  | ok d S1 =>
   rw [hf] at q;simp only [zan,hf,Out.bind];intro vs w' R' F' sh;dsimp only [Out.bind] at q
   cases hg:zd8 l d with
   | none=>rw [hg] at q;exact q.elim
   | some r =>
    rw [hg] at q;obtain ⟨n,rfl⟩:=zrh l d r hg;obtain ⟨a',xs',e1',h2',t'⟩:=R'.tupAny hl;rw [e1] at e1';cases e1'
    cases sh with
    | cons h1 hn =>
     cases hn;exact ⟨a,xs',l,w',d,_,n,rfl,rfl,rfl,h2',t',h1.top R',hg,q _ w' R' F' (.int _)⟩
 ·rw [hb] at q;exact q.elim
end
end S2
namespace ST
open PySem PySem.Spec PyProof.Rows
noncomputable def zm1:List Int:=[0,1,2,3,4,5,6,7]
def zgg(ks:List Int):List Int:=zm1.filter fun x=>decide (x∈ks)
theorem zmr:k∈zm1↔0<=k/\k<8:=by
 have e:zm1=(List.range 8).map (fun n:Nat=>(n:Int)):=rfl;rw [e,yat];constructor
 ·rintro ⟨n,hn,rfl⟩;have:=yaI.mp hn;omega
 ·rintro ⟨h1,h2⟩;exact ⟨k.toNat,yaI.mpr (by omega),by omega⟩
def ziu:k∈zgg ks↔(0<=k/\k<8)/\k∈ks:=by
 unfold zgg;rw [ya0,zmr,ybk]
def ziQ:(zgg ks).Pairwise (· < ·):=List.Pairwise.filter _ (by unfold zm1;decide)
def zne:(zgg ks).length<=8:=by
 have:=yaO (fun x=>decide (x∈ks)) zm1;exact this
theorem zhW{l:List Int}(h:l.Pairwise (· < ·)):l.Nodup:=List.Pairwise.imp (fun {a b} h=>by omega) h
end ST
namespace PySem
section
variable{prog:Program}{w:World}{A:Around}{E:Z5}{s:Shared}
theorem znf{l:Addr}{items:Array Value}{ns:List Int}{Q:Z5}
  (hh:A.handled=none) (hl:s.heap.IsTuple l items) (hi:PyProof.Rows.IntsAre items.toList ns) (hb:items.size+1<scanBound)
  (h:∀(h':Heap) (tk:Nat),h'.SetOf (intKind prog w) s.heap.objs.size (fun k'=>(PyProof.Rows.firstMet (fun i=>ns.getD i 0) items.size).any (· == k')) (PyProof.Rows.firstMet (fun i=>ns.getD i 0) items.size).length->(∀b o,s.heap.get? b=some o->h'.get? b=some o)->Q (.ref s.heap.objs.size) { s with heap:=h',toks:=tk }) :
  wpAny (model prog w) A (call (.type "set") [.ref l]) Q E s:=by
 obtain ⟨c,tl,hmro⟩:=ybW.mro;have hmade:=ybW.made;have hsub:=ybW.sub;refine wpAny_call (codeAny_of_tree ?_);show wpAny _ _ (callAny (.type "set") _) _ _ _;refine yaj ⟨Code.quiet_builtin _ (by decide +kernel),codeAny_builtin F.entry_type_call ?_⟩;rw [Around.under_plain (weight_type_call_type "set" [.ref l] []) rfl];have h1:=ybW.notType;have h2:=ybW.canCreate;have hct:=F.typeCall_set_1 (.ref l)
 repeat (any_goals (first | assumption | wp_step))
 refine ycv (code_set_new_1 (.ref l) (E:=E) (Q₁:=fun obj s₁=>obj=.ref s.heap.objs.size/\∃led:Bool,s₁={ s with heap:=s.heap.push { cls:=.type "set",dict:=none,data:=.set #[] 0 (.fresh 0 0 led) } }) fun led=>⟨rfl,led,rfl⟩) fun r s₁ hr=>?_
 cases r with
 | error e=>exact hr
 | ok fl =>
  cases fl with
  | ret obj =>
   obtain ⟨rfl,led,rfl⟩:=hr;generalize hG:s.heap.push { cls:=.type "set",dict:=none,data:=.set #[] 0 (.fresh 0 0 led) }=G;have hS:G.get? s.heap.objs.size=some { cls:=.type "set",dict:=none,data:=.set #[] 0 (.fresh 0 0 led) }:=hG ▸ yau _ rfl;have upG:∀b o,s.heap.get? b=some o->G.get? b=some o:=fun b o e=>hG ▸ yaf _ e
   have hGz:G.objs.size=s.heap.objs.size+1:=by rw [<-hG,yaZ]
   have hT:Shared.TypeIs { s with heap:=G } (.ref s.heap.objs.size) "set":=⟨_,hS,rfl⟩;have hli:=ybW.init.lookup;have hbi:=ybW.init.bind (.ref s.heap.objs.size)
   repeat (any_goals (first | assumption | wp_step))
   refine ycv (codeAny_call_builtin (R:=wants (fun r s₂=>r=.none/\∃h' tk,s₂={ s with heap:=h',toks:=tk }/\h'.SetOf (intKind prog w) s.heap.objs.size (fun k'=>(PyProof.Rows.firstMet (fun i=>ns.getD i 0) items.size).any (· == k')) (PyProof.Rows.firstMet (fun i=>ns.getD i 0) items.size).length ∧
     (∀b o,s.heap.get? b=some o->h'.get? b=some o)) E) ybW.init.plain F.entry_set_init (check_set_init_1 hT ?_)) fun r₂ s₂ hr₂=>?_
   ·obtain ⟨ol,hol,hcl,nl,hdl⟩:=hl;have hol':G.get? l=some ol:=upG l ol hol;obtain ⟨ocls,odict,odata,oslots⟩:=ol;simp only at hcl hdl;subst hcl;subst hdl;have hsls:=F.sub_tuple_set;have hslf:=F.sub_tuple_frozenset
    have hne:(Value.type "tuple" == Value.type "dict")=false:=by decide
    have hl1:G.IsTuple l items:=⟨_,hol',rfl,nl,rfl⟩;unfold Builtin.«set.__init__» noKeywords Builtin.Frozenset.updateFrom;generalize hPI:pyIter=PI
    wp_walk
    subst hPI;refine ybJ hl1 ?_;refine yad (wpAny_runValue ?_);have hlS:l<s.heap.objs.size:=yas hol
    have hh3:A.in1.in1.in1.handled=none:=by simp [hh]
    have hneI:l≠G.objs.size:=by rw [hGz];exact yaz (ycs hlS)
    have hSf:s.heap.objs.size ∉ [G.objs.size,l]:=by
     rw [hGz];simp only [yaA,yaF,yaV,ycF,not_or];exact ⟨yaz (ybF _),ya3 hlS⟩
    have hval:∀(i:Nat) (v:Value),items[i]?=some v->∃t,v=.int ((fun i=>ns.getD i 0) i) t:=fun i v hv =>
     PyProof.Rows.IntsAre.int_at hi i v (by rw [Array.getElem?_toList];exact hv)
    refine PyProof.Rows.codeAny_set_update_loopS ((Walks.tuple hh3 _ l hneI items).toS) s.heap.objs.size hSf (fun i=>ns.getD i 0) hval hb (items.size-0) 0 _ (by omega) (ybn _)
     ⟨⟨_,yau _ rfl,rfl,rfl⟩,(hl1.push _)⟩ ?hS0 ?hR
    case hS0=>exact ⟨_,#[],0,_,yaf _ hS,⟨rfl,rfl,rfl⟩,rfl,fun e he=>by simp at he,fun k=>by simp [PyProof.Rows.firstMet],by decide,by rfl,rfl⟩
    case hR =>
     intro s' hm hS';obtain ⟨h',g',d',tk',os'⟩:=s';have eg:g'=s.gens:=hm.gens;have ed:d'=s.drawn:=hm.drawn;have eo:os'=s.os:=hm.os;subst eg;subst ed;subst eo;show wpAny _ _ _ _ _ _;refine yaj ?_;show wpAny _ _ (ret Value.none) _ _ _;refine yaj ⟨rfl,h',tk',rfl,hS',fun b o e=>?_⟩;have hb1:b≠s.heap.objs.size:=yaz (yas e)
     have hb2:b≠G.objs.size:=by rw [hGz];exact yaz (ycs (yas e))
     exact hm.heap b o (by simp only [yaA,yaF,yaV,ycF,not_or];exact ⟨hb1,hb2⟩) (yaf _ (upG b o e))
   ·cases r₂ with
    | error e=>exact hr₂
    | ok fl₂ =>
     cases fl₂ with
     | ret r =>
      obtain ⟨rfl,h',tk,rfl,hS',hk'⟩:=hr₂
      repeat (any_goals (first | assumption | wp_step))
      exact h _ _ hS' hk'
     | _=>exact hr₂.elim
  | _=>exact hr.elim
end
end PySem
namespace ST
open PySem PyProof.Rows
theorem zfO(val:Nat->Int):∀n,(firstMet val n).Nodup
 | 0=>List.nodup_nil
 | n+1=>by
  rw [firstMet_succ];unfold step_dedup;split
  ·exact zfO val n
  ·rename_i h;rw [yc7];refine ⟨zfO val n,ybz.mpr ⟨yaV,List.nodup_nil⟩,fun a ha b hb e=>h ?_⟩;rw [yaF] at hb;exact ycA.mpr ⟨a,ha,by rw [e,hb];exact ybP _⟩
theorem zq1{ns:List Int}{n:Nat}(hn:n=ns.length)(hs:∀k∈ns,0<=k/\k<8):(firstMet (fun i=>ns.getD i 0) n).length=(zgg ns).length:=by
 subst hn;refine List.Perm.length_eq ((List.perm_ext_iff_of_nodup (zfO _ _) (zhW ziQ)).mpr fun k=>?_)
 have e:(List.range ns.length).map (fun i=>ns.getD i 0)=ns:=by
  apply ya9;intro i;rw [yal]
  by_cases hi:i<ns.length
  ·rw [yb6 hi,yaa hi];show some (ns.getD i 0)=_;rw [yab,yaa hi];rfl
  ·rw [yav (by rw [yby];omega),yav (by omega)];rfl
 have a:=firstMet_any (fun i=>ns.getD i 0) ns.length k;rw [e] at a;rw [ziu]
 have m1:∀l:List Int,l.any (· == k)=true↔k∈l:=fun l=>by rw [ycA];exact ⟨fun ⟨x,h1,h2⟩=>eq_of_beq h2 ▸ h1,fun h=>⟨k,h,ybP k⟩⟩
 rw [<-m1,a,m1];exact ⟨fun h=>⟨hs k h,h⟩,fun h=>h.2⟩
end ST
namespace L2
open PySem PySem.Spec PyProof.Rows
section
variable{X:Cx}
theorem zhR:∀{ns:List Int} {vs:List Value},Vals (ns.map V.int) vs->IntsAre vs ns
 | [],_,r=>by rw [List.map_nil] at r;cases r;exact .nil
 | n::ns,_,r=>by
  rw [yay] at r
  cases r with
  | cons h t =>
   obtain ⟨u,e⟩:=(show ∃t,_=Value.int n t from h);subst e;exact .cons n u (zhR t)
theorem zgp(hc:X.calm=true):zet X (.type "set") (fun xs H Q=>∃(p:Addr) (ns:List Int),xs=[.ref p]/\SqT X.K H p (ns.map V.int)/\(∀k∈ns,0<=k/\k<8)/\ns.length+1<scanBound/\∀l,H l=none->Q (.ref l) (upd H l (.ext (zkC l (ST.zgg ns).length)))):=by
 intro pins s σ H xs us Q I r h;obtain ⟨p,ns,rfl,hq,hs,hb,q⟩:=h;obtain ⟨u,rfl,rx⟩:=zgX r;cases rx;obtain ⟨its,rv,pl,hz⟩:=I.tuple hq
 have hln:its.toArray.size=ns.length:=by rw [yag,<-rv.length,yae]
 refine znf (I.ok.hd hc) (show s.heap.IsTuple p its.toArray from pl) (by simpa using zhR rv) (by rw [hln];exact hb) fun h' tk S kp=>?_
 refine ⟨.ref s.heap.objs.size,_,I.laid (t':=tk) (o:=.ext (zkC s.heap.objs.size (ST.zgg ns).length)) (fun b u e=>kp b u e) (yam _) ?_,rfl,q _ (I.hok.fresh (yam _))⟩;obtain ⟨o,es,ep,t,e1,e2,e3,_,_,_,hf,hn⟩:=S;exact ⟨⟨o,es,ep,t,e1,e2,e3,hf,hn.trans (ST.zq1 hln hs)⟩,⟨o,e1⟩,fun h1 h2 ⟨o,es,ep,t,f1,f⟩ k=>⟨o,es,ep,t,k o f1,f⟩⟩
end
end L2
namespace S2
open PySem PySem.Spec PyProof.Rows L2
def zdA:D->Option D | .tup l=>(zcu l).bind fun ns=>if ns.all (fun k=>decide (0<=k/\k<8))&&decide (ns.length<=100) then some (.int ((ST.zgg ns).length:Nat)) else none | _=>none
section
variable{X:Cx}{cl:Cf}{E:St->XK}{e:Expr}{f:Fe}{pos:Pos}
theorem zkP(hc:X.calm=true)(hg:Gl X "len")(hm:X.mg "len" = none)(hg2:Gl X "set")(hm2:X.mg "set" = none)(he:PE X e (tE cl E f))(hs:starEach [e] X.env=[(false,eval e X.env)]) :
  PE X (.Call (.Name "len" p) [.Call (.Name "set" p2) [e] [] pos2] [] pos) (tE cl E (eUn zdA f)):=by
 refine PE.imp (zhi zhD hg hm PySem.boot_len (zcr (zeF (zgp hc) hg2 hm2 (by decide +kernel) (zea he zgu hs) (he:=hs) (hpl:=rfl)) zd6)) ?_;rintro σ H Q ⟨B,w,ρ,S,rfl,R,q⟩;refine ⟨B,w,ρ,S,rfl,R,?_⟩;unfold eUn at q
 cases hf:f ρ S with
 | bad=>rw [hf] at q;exact q.elim
 | exc c S1=>rw [hf] at q;simp only [zan,hf,Out.bind];exact q
 | ok d S1 =>
  rw [hf] at q;simp only [zan,hf,Out.bind];intro vs w1 R1 F1 sh;dsimp only [Out.bind] at q
  cases d with
  | tup l =>
   cases hk:zcu l with
   | none=>simp [zdA,hk,Out.of] at q
   | some ns =>
    by_cases h8:(ns.all (fun k=>decide (0<=k/\k<8))&&decide (ns.length<=100))=true
    ·simp only [zdA,hk,Option.bind,h8,yb4] at q
     cases sh with
     | cons h1 hn =>
      cases hn
      cases h1 with
      | tup ep k r =>
       have er:=ziA r hk;subst er;refine ⟨_,ns,rfl,SqT.of ep,fun k hk=>yar (ya1.mp (ycC.mp h8).1 k hk),ycZ (Nat.succ_le_succ (yar (ycC.mp h8).2)) (by decide),fun l hl=>?_⟩;have hd:=ST.zne (ks:=ns);refine ⟨l,_,rfl,zaM,by omega,?_⟩;exact q _ (w1.add l (.ext (zkC l (ST.zgg ns).length))) (R1.grow (zaD hl _)) (F1.trans (zaD hl _).fut) (.int _)
    ·rw [Bool.not_eq_true] at h8;simp only [zdA,hk,Option.bind,h8,yaT,ybO] at q;exact q.elim
  | _=>exact q.elim
end
end S2
namespace ST
open PySem PySem.Spec PyProof.Rows
end ST
namespace PySem
end PySem
namespace ST
open PySem PySem.Spec PyProof.Rows
theorem zgO{α:Type}:∀(l:List α) (i:Nat) (h:i<l.length),([l[i]]++l.eraseIdx i).Perm l
 | x::xs,0,_=>List.Perm.refl _
 | x::xs,i+1,h=>by
  have h':i<xs.length:=by simpa using h
  exact (List.Perm.swap x (xs[i]'h') (xs.eraseIdx i)).trans (List.Perm.cons x (zgO xs i h'))
open PySem PySem.Spec PySem.W PyProof.Rows
end ST
namespace L2
open PySem PySem.Spec PyProof.Rows
end L2
namespace S2
open PySem PySem.Spec PyProof.Rows L2
end S2
namespace L2
open PySem PySem.Spec PyProof.Rows
variable{X:Cx}
end L2
namespace S2
open PySem PySem.Spec PyProof.Rows L2
structure FnI where
 ar:Nat
 own:Bool
 run:List D->Sto->Out D
structure ObE where
 cur:Str
 fk:Str->Str->Bool
 df:Str->Bool
 mt:Str->Option (Str×FnI)
 mks:Str->Option (List D×FnI)
structure Genv where
 con:Str->Option D
 fn:Str->Option FnI
 blt:Str->Bool
 exc:Str->Bool
 und:Str->Str->Bool
 isx:Str->Str->Option Bool
 ob:ObE
 ds:Str->Bool
abbrev bmV:List Value:=[.type "ValueError",.type "Exception",.type "BaseException",.type "object"]
structure GOk(cl:Cf)(G:Genv)(P:Program)(wo:PySem.World)(K:PySem.W.Frag)(mg:Z6)(base:Heap)(k:Nat):Prop where
 con:∀x d,G.con x=some d->∃v u,mg x=some u/\zbM v u/\∀w,Shd cl w v d
 fn:∀x fi,G.fn x=some fi->∃f fd ps,mg x=some (.ref f)/\PySem.W.keepIn K (.ref f)=true/\zcA K fd ps []/\FnOk P wo K mg base (CXE P wo) k f fd ps (zhX cl fi.ar fi.own fi.run)
 blt:∀x,G.blt x=true->mg x=none
 exc:∀c,G.exc c=true->mg c=some (.ref (cl c))/\PySem.W.excIn K (cl c) bmV "ValueError.__new__" = true
 und:∀c C,G.und c C=true->L2.zrU K (cl c) (cl C)
 isx:∀c C b,G.isx c C=some b->PySem.W.ExcCls K (cl c)/\PySem.W.kitOne K (.ref (cl c)) (zyP cl C)=some b
 fk:∀c f,G.ob.fk c f=true->znw cl c f
 mt:∀m c fi,G.ob.mt m=some (c,fi)->∃f fd ps,Cls K (cl c)/\Meth K (cl c) m f/\zcA K fd ps []/\FnOk P wo K mg base (CXE P wo) k f fd ps (zhX cl fi.ar fi.own fi.run)
 mks:∀c dds fi,G.ob.mks c=some (dds,fi)->∃f fd ps dvs ds k',k'+1<=k/\mg c=some (.ref (cl c))/\Mk K (cl c) f/\zcA K fd ps []/\zcA K fd ps ds/\Vals dvs ds/\(∀w,Shds cl w dvs dds)/\FnOk P wo K mg base (CXE P wo) k' f fd ps (zhX cl fi.ar false fi.run)
noncomputable abbrev Names:=List (Str×NameKind)
structure Gx(cl:Cf)(G:Genv)(k:Nat)(X:Cx)(nm:Names)(N:List Str)(E:St->XK):Prop where
 gok:GOk cl G X.prog X.w X.K X.mg X.base k
 room:Room k X.A
 calm:X.calm=true
 pass:zdK (CXE X.prog X.w) X E
 eN:X.N=N
 kk:X.K=cl.K
 pp:X.prog=cl.P
 ww:X.w=cl.wo
 nd:N.Nodup
 vis:∀x kd,nm.lookup x=some kd->∃kd',X.env.scope.names.lookup x=some kd'/\(kd'=kd\/(kd=.free/\kd'=.cell))
 fnx:∀x,nm.lookup x=some .local->X.env.scope.names.lookup x=some .local
noncomputable def idx:List Str->Str->Option Nat
 | [],_=>none
 | y::l,x=>if y=x then some 0 else (idx l x).map (·+1)
theorem zhr:∀{N:List Str} {x:Str} {i:Nat},idx N x=some i->N[i]?=some x
 | y::l,x,i,h=>by
  unfold idx at h;split at h
  ·rename_i e;cases h;rw [e];rfl
  ·cases hr:idx l x with
   | none=>rw [hr] at h;cases h
   | some j=>rw [hr] at h;cases h;simpa using zhr hr
noncomputable def zjZ(x:Str):Bool:=!(x == ("__debug__":Str))&&!(x == ("__classdict__":Str))&&!decide (x = "__name__")
def zio(h:zjZ x=true):(x == ("__debug__":Str))=false/\(x == ("__classdict__":Str))=false/\x ≠ "__name__":=by
 unfold zjZ at h;simp only [yac,yct,decide_eq_false_iff_not] at h;exact ⟨h.1.1,h.1.2,h.2⟩
noncomputable def zwn:Option NameKind->Bool | some .local=>true | some .cell=>true | some .free=>true | _=>false
def zco(nm:Names)(N:List Str)(x:Str):Option Nat:=if zwn (nm.lookup x)&&zjZ x then idx N x else none
noncomputable def zct(nm:Names)(x:Str):Bool:=decide (nm.lookup x=some .globalImplicit)&&zjZ x
section
variable{cl:Cf}{G:Genv}{k:Nat}{X:Cx}{nm:Names}{N:List Str}{E:St->XK}
def Gx.slot(g:Gx cl G k X nm N E)(h:zco nm N x=some i):X.N[i]?=some x/\Vis X.env.scope x/\(x == ("__debug__":Str))=false/\(x == ("__classdict__":Str))=false:=by
 unfold zco at h;split at h
 ·rename_i hv;rw [yac] at hv;obtain ⟨h1,h2,_⟩:=zio hv.2;refine ⟨by rw [g.eN];exact zhr h,?_,h1,h2⟩
  cases hk:nm.lookup x with
  | none=>rw [hk] at hv;exact absurd hv.1 (by decide)
  | some kd =>
   obtain ⟨kd',e,z⟩:=g.vis x kd hk;rw [hk] at hv;unfold Vis;rw [e]
   rcases z with rfl | ⟨_,rfl⟩
   ·cases kd'<;>first | exact .inl rfl | exact .inr (.inl rfl) | exact .inr (.inr rfl) | exact absurd hv.1 (by decide)
   ·exact .inr (.inl rfl)
 ·cases h
def Gx.glob(g:Gx cl G k X nm N E)(h:zct nm x=true):Gl X x/\(x == ("__debug__":Str))=false/\x ≠ "__name__":=by
 unfold zct at h;rw [yac] at h;obtain ⟨h1,_,h3⟩:=zio h.2;obtain ⟨kd',e,z⟩:=g.vis x _ (yar h.1)
 rcases z with rfl | ⟨z,_⟩
 ·exact ⟨e,h1,h3⟩
 ·cases z
end
noncomputable abbrev Rec:=Names->List Str->Expr->Option (Bool×Fe)
noncomputable def okE:Expr->Bool | .Starred _ _=>false | .Set _ _ _=>false | _=>true
def zar(h:okE e=true):zcE e=true:=by cases e<;>first | rfl | cases h
def zfN(h:okE e=true):behindInMarks op e=false:=by cases e<;>first | rfl | cases h
def zhj(h:okE e=true)(v:Value):foldedSetIterable e env v=pure v:=by cases e<;>first | rfl | cases h
noncomputable def zbP:Expr->Bool | .IfExp _ _ _ _=>false | _=>true
noncomputable def zbO(cl:Cf)(G:Genv)(k:Nat)(rc:Rec):Prop:=∀(X:Cx) (nm:Names) (N:List Str) (E:St->XK),Gx cl G k X nm N E->∀(e:Expr) (o:Bool) (f:Fe),rc nm N e=some (o,f) →
 (o=true->PE X e (tN cl E f))/\PE X e (tE cl E f)/\(zbP e=true->PT X e (tTr cl E f))/\okE e=true
noncomputable def shE(rc:Rec)(nm:Names)(N:List Str)(e:Expr):Option Fe:=(rc nm N e).map (·.2)
def opE(rc:Rec)(nm:Names)(N:List Str)(e:Expr):Option Fe:=match e with
 | .Name x _=>(match zco nm N x with | some i=>some (zai i) | none=>shE rc nm N e)
 | _=>shE rc nm N e
def shL(rc:Rec)(nm:Names)(N:List Str):List Expr->Option (List Fe)
 | []=>some []
 | e::es=>(shE rc nm N e).bind fun f=>(shL rc nm N es).bind fun fs=>some (f::fs)
def opL(rc:Rec)(nm:Names)(N:List Str):List Expr->Option (List Fe)
 | []=>some []
 | e::es=>(opE rc nm N e).bind fun f=>(opL rc nm N es).bind fun fs=>some (f::fs)
section
variable{cl:Cf}{G:Genv}{k:Nat}{rc:Rec}{X:Cx}{nm:Names}{N:List Str}{E:St->XK}
def zaO(hs:zbO cl G k rc)(g:Gx cl G k X nm N E)(h:shE rc nm N e=some f):PE X e (tE cl E f)/\(zbP e=true->PT X e (tTr cl E f))/\okE e=true:=by
 unfold shE at h
 cases hr:rc nm N e with
 | none=>rw [hr] at h;cases h
 | some p =>
  obtain ⟨o,f'⟩:=p;rw [hr] at h;cases h;obtain ⟨_,h2,h3,h4⟩:=hs X nm N E g e o _ hr;exact ⟨h2,h3,h4⟩
def zdo(hs:zbO cl G k rc)(g:Gx cl G k X nm N E)(h:opE rc nm N e=some f):PE X e (tH cl E f)/\okE e=true:=by
 unfold opE at h;split at h
 ·rename_i x pos;split at h
  ·rename_i i hi;cases h;obtain ⟨h1,h2,h3,h4⟩:=g.slot hi;exact ⟨zsO h1 h2 h3 h4,rfl⟩
  ·obtain ⟨h1,_,h3⟩:=zaO hs g h;exact ⟨zlO h1,h3⟩
 ·obtain ⟨h1,_,h3⟩:=zaO hs g h;exact ⟨zlO h1,h3⟩
theorem zfB(hs:zbO cl G k rc)(g:Gx cl G k X nm N E):∀{es:List Expr} {fs:List Fe},shL rc nm N es=some fs->PA X es (tAs cl E fs)/\es.all zcE=true/\fs.length=es.length
 | [],fs,h=>by cases h;exact ⟨zgu,rfl,rfl⟩
 | e::es,fs,h=>by
  unfold shL at h
  cases h1:shE rc nm N e with
  | none=>rw [h1] at h;cases h
  | some f =>
   rw [h1] at h
   cases h2:shL rc nm N es with
   | none=>rw [h2] at h;cases h
   | some fs' =>
    rw [h2] at h;cases h;obtain ⟨a1,_,a3⟩:=zaO hs g h1;obtain ⟨b1,b2,b3⟩:=zfB hs g h2;exact ⟨zea a1 b1 (zbN (zar a3)),by rw [ybK,zar a3,b2];rfl,by rw [yai,yai,b3]⟩
theorem zpw(hs:zbO cl G k rc)(g:Gx cl G k X nm N E):∀{es:List Expr} {fs:List Fe},opL rc nm N es=some fs->PA X es (tHs cl E fs)/\es.all zcE=true/\fs.length=es.length
 | [],fs,h=>by cases h;exact ⟨zph,rfl,rfl⟩
 | e::es,fs,h=>by
  unfold opL at h
  cases h1:opE rc nm N e with
  | none=>rw [h1] at h;cases h
  | some f =>
   rw [h1] at h
   cases h2:opL rc nm N es with
   | none=>rw [h2] at h;cases h
   | some fs' =>
    rw [h2] at h;cases h;obtain ⟨a1,a3⟩:=zdo hs g h1;obtain ⟨b1,b2,b3⟩:=zpw hs g h2;exact ⟨zlK a1 b1 (zbN (zar a3)),by rw [ybK,zar a3,b2];rfl,by rw [yai,yai,b3]⟩
end
noncomputable def zyO:Const->Option D
 | .int i=>some (.int i)
 | .bool b=>some (.bl b)
 | .none=>some .non
 | .str x=>some (.str x)
 | _=>none
def zwI:Operator->Option (D->D->Option D)
 | .Add=>some zcn | .Sub=>some zsn | .Mult=>some zgC | .Mod=>some znx | .FloorDiv=>some zum | _=>none
noncomputable def zmJ:Expr->Bool | .Constant .none _ _=>true | _=>false
noncomputable def zmK:Expr->Bool | .Constant (.bool _) _ _=>true | _=>false
def ltD:=zr1 fun i j=>decide (i<j)
def leD:=zr1 fun i j=>decide (i<=j)
def gtD:=zr1 fun i j=>decide (j<i)
def geD:=zr1 fun i j=>decide (j<=i)
def zuq:CmpOp->Expr->Option (D->D->Option D)
 | .Eq,_=>some eqD | .NotEq,_=>some neD | .Lt,_=>some ltD | .LtE,_=>some leD | .Gt,_=>some gtD | .GtE,_=>some geD | .In,_=>some inD | .NotIn,_=>some zll
 | .Is,b=>if zmJ b then some zny else if zmK b then some zuY else none
 | .IsNot,b=>if zmJ b then some zk1 else if zmK b then some zmi else none
def zli(rc:Rec)(nm:Names)(N:List Str)(op:BoolOp):List Expr->Option Fe
 | []=>none
 | [a]=>if zbP a then shE rc nm N a else none
 | a::b::r=>if zbP a then (shE rc nm N a).bind fun f=>(zli rc nm N op (b::r)).bind fun h=>some (match op with | .And=>zhL f h | .Or=>eOr f h) else none
structure BI where
 g:List D->Option D
 nw:Bool
def znl(x:Str):Option BI :=
 if x = "len" then some ⟨zcT,false⟩
 else if x = "all" then some ⟨znA,false⟩
 else if x = "sum" then some ⟨zsm,false⟩
 else if x = "tuple" then some ⟨zbI,false⟩
 else if x = "list" then some ⟨zmA,true⟩
 else if x = "max" then some ⟨zrZ,false⟩
 else none
noncomputable def zsb(x:Str):Option String:=if x = "int" then some "int" else if x = "bool" then some "bool" else if x = "tuple" then some "tuple" else if x = "str" then some "str" else if x = "list" then some "list" else none
def zrI(G:Genv)(rc:Rec)(nm:Names)(N:List Str)(x:Str)(args:List Expr):Option (Bool×Fe) :=
 if zct nm x then
  match G.fn x with
  | some fi=>if args.length=fi.ar then (shL rc nm N args).bind fun fs=>some (fi.own,eFn fi.run fs) else none
  | none=>if G.blt x then
    (if x = "isinstance" then (match args with
     | [a,.Name t _]=>if zct nm t&&G.blt t&&(zsb t).isSome then (zsb t).bind fun T=>(opE rc nm N a).bind fun f=>some (false,eUn (zfk T) f)
      else none
     | _=>none)
    else match args with
     | []=>none
     | _::_=>(znl x).bind fun bi=>(opL rc nm N args).bind fun fs=>some (bi.nw,zaq bi.g fs)) else none
 else none
noncomputable def zpB:Expr->Bool | .Tuple _ _ _=>true | _=>false
def zk7(G:Genv)(rc:Rec)(nm:Names)(N:List Str)(tg e:Expr):Option Fi:=match e with
 | .Call (.Name x p) args [] pos=>if x = "range" then (if zct nm x&&G.blt x then (match args with
   | [a]=>(shE rc nm N a).bind fun f=>some (zd4 f)
   | _=>none) else none)
  else if x = "enumerate" then (if zct nm x&&G.blt x&&zpB tg then (match args with
   | [a]=>(shE rc nm N a).bind fun f=>some (zm2 f)
   | _=>none) else none)
  else if x = "zip" then (if zct nm x&&G.blt x&&zpB tg then (match args with
   | [a,b]=>(shE rc nm N a).bind fun f=>(shE rc nm N b).bind fun h=>some (zr0 f h)
   | _=>none) else none)
  else (shE rc nm N e).map zaB
 | _=>(shE rc nm N e).map zaB
noncomputable def zvB:Expr->Option (Str×Expr×Pos×Pos) | .Call (.Name y p) [a] [] q=>some (y,a,p,q) | _=>none
noncomputable def spA:List Expr->Option (Str×Expr×Pos×Pos) | [e]=>zvB e | _=>none
def zsz(h:spA args=some c):args=[.Call (.Name c.1 c.2.2.1) [c.2.1] [] c.2.2.2]:=by
 match args,h with
 | [e],h =>
  have h':zvB e=some c:=h;unfold zvB at h';split at h'
  ·cases h';rfl
  ·cases h'
def spG(G:Genv)(rc:Rec)(nm:Names)(N:List Str)(x:Str)(args:List Expr):Option (Bool×Fe):=(spA args).bind fun c =>
 if decide (x = "list")&&decide (c.1 = "range")&&zct nm "list" && G.blt "list" && zct nm "range" && G.blt "range" then (shE rc nm N c.2.1).map fun f=>(true,eUn lrD f)
 else if decide (x = "len")&&decide (c.1 = "set")&&zct nm "len" && G.blt "len" && zct nm "set" && G.blt "set" then (shE rc nm N c.2.1).map fun f=>(false,eUn zdA f)
 else none
section
variable{cl:Cf}{G:Genv}{k:Nat}{rc:Rec}{X:Cx}{nm:Names}{N:List Str}{E:St->XK}
theorem Gx.units(g:Gx cl G k X nm N E):X.A.units+64<cLine:=g.room.units
def zpO(h:zwI op=some gg):OpD X cl (binaryOp op) gg:=by
 cases op<;>simp [zwI] at h<;>subst h
 ·exact ztz
 ·exact zts
 ·exact ztu
 ·exact ztv
 ·exact zty
def zgT(g:Gx cl G k X nm N E)(h:zuq op b=some gg):OpD X cl (compareOp op) gg:=by
 cases op<;>simp only [zuq] at h
 ·cases h;exact zv0 g.kk g.units
 ·cases h;exact zvY g.kk g.units
 ·cases h;exact zhk zvU
 ·cases h;exact zhk zvV
 ·cases h;exact zhk zvW
 ·cases h;exact zhk zvX
 ·split at h
  ·cases h;exact ztw
  ·split at h
   ·cases h;exact ztx
   ·cases h
 ·split at h
  ·cases h;exact zqP
  ·split at h
   ·cases h;exact zqQ
   ·cases h
 ·cases h;exact zvZ g.kk g.units
 ·cases h;exact ztt g.kk g.units
theorem znk(hs:zbO cl G k rc)(g:Gx cl G k X nm N E):∀{es:List Expr} {f:Fe},zli rc nm N op es=some f->PE X (.BoolOp op es pos) (tE cl E f)/\PW X (.BoolOp op es pos) (tTr cl E f)
 | [],f,h=>by cases h
 | [a],f,h=>by
  unfold zli at h;split at h
  ·rename_i ht;obtain ⟨h1,h2,_⟩:=zaO hs g h;refine ⟨zta h1,?_⟩
   cases op with
   | And=>exact zqu (h2 ht)
   | Or=>exact zsZ (h2 ht)
  ·cases h
 | a::b::r,f,h=>by
  unfold zli at h;split at h
  ·rename_i ht
   cases h1:shE rc nm N a with
   | none=>rw [h1] at h;cases h
   | some fa =>
    rw [h1] at h
    cases h2:zli rc nm N op (b::r) with
    | none=>rw [h2] at h;cases h
    | some fb =>
     rw [h2] at h;obtain ⟨a1,a2,_⟩:=zaO hs g h1;obtain ⟨b1,b2⟩:=znk hs g (pos:=pos) h2
     cases op with
     | And=>cases h;exact ⟨zsP a1 b1,zsl (a2 ht) b2⟩
     | Or=>cases h;exact ⟨zvD a1 b1,zvw (a2 ht) b2⟩
  ·cases h
theorem zo4:bootBuiltins "all" = some (.builtin "all"):=by decide +kernel
theorem zgU:bootBuiltins "tuple" = some (.type "tuple"):=by decide +kernel
def ziS:bootBuiltins "list" = some (.type "list"):=by decide +kernel
theorem zo3:bootBuiltins "int" = some (.type "int"):=by decide +kernel
theorem znj:bootBuiltins "bool" = some (.type "bool"):=by decide +kernel
theorem zo2:bootBuiltins "max" = some (.builtin "max"):=by decide +kernel
theorem zu1:bootBuiltins "min" = some (.builtin "min"):=by decide +kernel
theorem zu2:bootBuiltins "abs" = some (.builtin "abs"):=by decide +kernel
theorem zo1:bootBuiltins "str" = some (.type "str"):=by decide +kernel
def zuA(g:Gx cl G k X nm N E)(h:znl x=some bi)(hg:zct nm x=true)(hb:G.blt x=true)(ha:PA X (e::es) (tHs cl E fs))(hp:(e::es).all zcE=true) :
  (bi.nw=true->PE X (.Call (.Name x p) (e::es) [] pos) (tN cl E (zaq bi.g fs)))/\PE X (.Call (.Name x p) (e::es) [] pos) (tE cl E (zaq bi.g fs)):=by
 obtain ⟨g1,g2,g3⟩:=g.glob hg;have m:=g.gok.blt x hb;rw [ybK,yac] at hp;have st:=zbN (es:=es) (env:=X.env) hp.1;have pl:=zbW (pos:=pos) (env:=X.env) hp.2
 have D1:∀{id:String} {gg:List D->Option D},zjA X cl (.builtin id) gg->bootBuiltins x=some (.builtin id)->PE X (.Call (.Name x p) (e::es) [] pos) (tE cl E (zaq gg fs)):=fun hc hv =>
  PE.imp (zhi hc g1 m hv ha g3 g2 st pl) fun _ _ _ q=>zsi (fun _ _ _ z=>z) q
 have D2:∀{T:String} {gg:List D->Option D},zjA X cl (.type T) gg->bootBuiltins x=some (.type T)->PE X (.Call (.Name x p) (e::es) [] pos) (tE cl E (zaq gg fs)):=fun hc hv =>
  PE.imp (zeF hc g1 m hv ha g3 g2 st pl) fun _ _ _ q=>zsi (fun _ _ _ z=>z) q
 have N2:∀{T:String} {gg:List D->Option D},zuL X cl (.type T) gg->bootBuiltins x=some (.type T)->PE X (.Call (.Name x p) (e::es) [] pos) (tN cl E (zaq gg fs)):=fun hc hv =>
  PE.imp (zeF hc g1 m hv ha g3 g2 st pl) fun _ _ _ q=>zvu (fun _ _ _ z=>z) q
 unfold znl at h;split at h
 ·rename_i e';cases h;exact ⟨(fun z=>absurd z (by decide)),D1 (zuu g.kk) (by rw [e'];exact PySem.boot_len)⟩
 split at h
 ·rename_i e';cases h;exact ⟨(fun z=>absurd z (by decide)),D1 (zuv g.calm) (by rw [e'];exact zo4)⟩
 split at h
 ·rename_i e';cases h;exact ⟨(fun z=>absurd z (by decide)),D1 (zus g.calm) (by rw [e'];exact PyProof.Rows.boot_sum)⟩
 split at h
 ·rename_i e';cases h;exact ⟨(fun z=>absurd z (by decide)),D2 zoY (by rw [e'];exact zgU)⟩
 split at h
 ·rename_i e';cases h;have n:=N2 zrA (by rw [e'];exact ziS);exact ⟨fun _=>n,zd5 n⟩
 split at h
 ·rename_i e';cases h;exact ⟨(fun z=>absurd z (by decide)),D1 (zut g.calm) (by rw [e'];exact zo2)⟩
 ·cases h
def zvk(h:zsb t=some T):bootBuiltins t=some (.type T):=by
 unfold zsb at h;split at h
 ·rename_i e;cases h;rw [e];exact zo3
 split at h
 ·rename_i e;cases h;rw [e];exact znj
 split at h
 ·rename_i e;cases h;rw [e];exact zgU
 split at h
 ·rename_i e;cases h;rw [e];exact zo1
 split at h
 ·rename_i e;cases h;rw [e];exact ziS
 ·cases h
def zrH(hs:zbO cl G k rc)(g:Gx cl G k X nm N E)(h:zrI G rc nm N x args=some (o,f)) :
  (o=true->PE X (.Call (.Name x p) args [] pos) (tN cl E f))/\PE X (.Call (.Name x p) args [] pos) (tE cl E f):=by
 unfold zrI at h;split at h
 ·rename_i hg;obtain ⟨g1,g2,g3⟩:=g.glob hg;split at h
  ·rename_i fi hfi;split at h
   ·rename_i hl;obtain ⟨fa,fd,ps,m1,m2,m3,m4⟩:=g.gok.fn x fi hfi
    cases h1:shL rc nm N args with
    | none=>rw [h1] at h;cases h
    | some fs =>
     rw [h1] at h;cases h;obtain ⟨a1,a2,a3⟩:=zfB hs g h1;have hlen:fs.length=fi.ar:=a3.trans hl
     have main:PE X (.Call (.Name x p) args [] pos) (zhU (zhX cl fi.ar fi.own fi.run) [] E (tAs cl E fs)):=by
      cases args with
      | nil =>
       cases h1;refine PE.imp (zmb m4 g.room g1 m1 m2 m3 .nil g.pass g2) ?_;rintro σ H Q ⟨B,w,ρ,S,rfl,R,q⟩;exact q [] w R (Fut.refl _) .nil
      | cons e es =>
       rw [ybK,yac] at a2;exact zoh m4 g.room g1 m1 m2 m3 .nil g.pass a1 g2 (zbN a2.1) (zbW a2.2)
     cases ho:fi.own with
     | false =>
      rw [ho] at main;exact ⟨(fun z=>by cases z),PE.imp main fun _ _ _ q=>zuy q hlen⟩
     | true =>
      rw [ho] at main;have n:PE X (.Call (.Name x p) args [] pos) (tN cl E (eFn fi.run fs)):=PE.imp main fun _ _ _ q=>zux q hlen
      exact ⟨fun _=>n,zd5 n⟩
   ·cases h
  ·split at h
   ·rename_i hb;split at h
    ·rename_i hx;subst hx;split at h
     ·rename_i a t p2;split at h
      ·rename_i ht;rw [yac,yac] at ht;replace ht:=ht.1
       cases hT:zsb t with
       | none=>rw [hT] at h;cases h
       | some T =>
        rw [hT] at h
        cases h1:opE rc nm N a with
        | none=>rw [h1] at h;cases h
        | some fa =>
         rw [h1] at h;cases h;obtain ⟨t1,t2,t3⟩:=g.glob ht.1;obtain ⟨a1,a2⟩:=zdo hs g h1;exact ⟨(fun z=>by cases z),zqk g1 (g.gok.blt _ hb) t1 (g.gok.blt _ ht.2) (zvk hT) t3 t2 (zar a2) a1⟩
      ·cases h
     ·cases h
    ·split at h
     ·cases h
     ·rename_i e es
      cases h2:znl x with
      | none=>rw [h2] at h;cases h
      | some bi =>
       rw [h2] at h
       cases h1:opL rc nm N (e::es) with
       | none=>rw [h1] at h;cases h
       | some fs =>
        rw [h1] at h;cases h;obtain ⟨a1,a2,_⟩:=zpw hs g h1;exact zuA g h2 hg hb a1 a2
   ·cases h
 ·cases h
def zmH(hs:zbO cl G k rc)(g:Gx cl G k X nm N E)(h:zk7 G rc nm N tg e=some fi):PI X tg e (tI cl E fi)/\okE e=true:=by
 have gen:∀{e:Expr},(shE rc nm N e).map zaB=some fi->PI X tg e (tI cl E fi)/\okE e=true:=fun {e} h=>by
  cases h1:shE rc nm N e with
  | none=>rw [h1] at h;cases h
  | some f =>
   rw [h1] at h;cases h;obtain ⟨a1,_,a3⟩:=zaO hs g h1;exact ⟨zsD g.kk a1,a3⟩
 unfold zk7 at h;split at h
 ·rename_i x p args pos;split at h
  ·rename_i hx;subst hx;split at h
   ·rename_i hb;rw [yac] at hb;obtain ⟨g1,_,_⟩:=g.glob hb.1;have m:=g.gok.blt _ hb.2;split at h
    ·rename_i a
     cases h1:shE rc nm N a with
     | none=>rw [h1] at h;cases h
     | some f =>
      rw [h1] at h;cases h;obtain ⟨a1,_,a3⟩:=zaO hs g h1;exact ⟨zqe g1 m (zea a1 zgu (zbN (zar a3))) (zbN (zar a3)),rfl⟩
    ·cases h
   ·cases h
  split at h
  ·rename_i hx;subst hx;split at h
   ·rename_i hb;rw [yac,yac] at hb;obtain ⟨g1,_,_⟩:=g.glob hb.1.1;have m:=g.gok.blt _ hb.1.2;split at h
    ·rename_i a
     cases h1:shE rc nm N a with
     | none=>rw [h1] at h;cases h
     | some f =>
      rw [h1] at h;cases h;obtain ⟨a1,_,a3⟩:=zaO hs g h1
      cases tg with
      | Tuple es kk tp=>exact ⟨zqf g1 m (zea a1 zgu (zbN (zar a3))) (zbN (zar a3)),rfl⟩
      | _=>cases hb.2
    ·cases h
   ·cases h
  split at h
  ·rename_i hx;subst hx;split at h
   ·rename_i hb;rw [yac,yac] at hb;obtain ⟨g1,_,_⟩:=g.glob hb.1.1;have m:=g.gok.blt _ hb.1.2;split at h
    ·rename_i a b
     cases h1:shE rc nm N a with
     | none=>rw [h1] at h;cases h
     | some f =>
      rw [h1] at h
      cases h2:shE rc nm N b with
      | none=>rw [h2] at h;cases h
      | some f2 =>
       rw [h2] at h;cases h;obtain ⟨a1,_,a3⟩:=zaO hs g h1;obtain ⟨b1,_,b3⟩:=zaO hs g h2;have s1:=zbN (es:=[b]) (env:=X.env) (zar a3);have s2:=zbN (es:=[]) (env:=X.env) (zar b3)
       cases tg with
       | Tuple es kk tp=>exact ⟨zsB g1 m (zea a1 (zea b1 zgu s2) s1) s1 (zbW (by simp [zar b3])),rfl⟩
       | _=>cases hb.2
    ·cases h
   ·cases h
  ·exact gen h
 ·exact gen h
def zvA(hs:zbO cl G k rc)(g:Gx cl G k X nm N E)(h:spG G rc nm N x args=some (o,f)):(o=true->PE X (.Call (.Name x p) args [] pos) (tN cl E f))/\PE X (.Call (.Name x p) args [] pos) (tE cl E f):=by
 unfold spG at h
 cases hc:spA args with
 | none=>rw [hc] at h;cases h
 | some c =>
 rw [hc] at h;obtain rfl:=zsz hc;obtain ⟨y,a,p2,pos2⟩:=c;dsimp only [Option.bind] at h ⊢;clear hc;split at h
 ·rename_i hb;simp only [yac,ybh] at hb;obtain ⟨⟨⟨⟨⟨rfl,rfl⟩,b1⟩,b2⟩,b3⟩,b4⟩:=hb;obtain ⟨g1,_,_⟩:=g.glob b1;obtain ⟨g2,_,_⟩:=g.glob b3
  cases h1:shE rc nm N a with
  | none=>rw [h1] at h;cases h
  | some fa =>
   rw [h1] at h;cases h;obtain ⟨a1,_,a3⟩:=zaO hs g h1;have n:=zvE (p:=p) (p2:=p2) (pos:=pos) (pos2:=pos2) g.calm g1 (g.gok.blt _ b2) g2 (g.gok.blt _ b4) a1 (zbN (zar a3));exact ⟨fun _=>n,zd5 n⟩
 split at h
 ·rename_i hb;simp only [yac,ybh] at hb;obtain ⟨⟨⟨⟨⟨rfl,rfl⟩,b1⟩,b2⟩,b3⟩,b4⟩:=hb;obtain ⟨g1,_,_⟩:=g.glob b1;obtain ⟨g2,_,_⟩:=g.glob b3
  cases h1:shE rc nm N a with
  | none=>rw [h1] at h;cases h
  | some fa =>
   rw [h1] at h;cases h;obtain ⟨a1,_,a3⟩:=zaO hs g h1;exact ⟨(fun z=>by cases z),zkP g.calm g1 (g.gok.blt _ b2) g2 (g.gok.blt _ b4) a1 (zbN (zar a3))⟩
 ·cases h
noncomputable def zpk:Expr->Bool | .Name _ _=>true | .Call (.Name _ _) (_::_) _ _=>true | .Attribute (.Name _ _) _ _=>true | _=>false
def zq0(G:Genv)(rc:Rec)(nm:Names)(N:List Str)(o:Expr)(m:Str)(ap cp:Pos)(args:List Expr)(kws:List Keyword):Option (Bool×Fe) :=
 if kws.isEmpty&&zpk o&&(ap.endLine == cp.line)&&decide (args.length<30) then (G.ob.mt m).bind fun c=>if args.length+1=c.2.ar then (shE rc nm N o).bind fun fo=>(shL rc nm N args).bind fun fs=>some (c.2.own,zbY c.1 m c.2.run fo fs) else none else none
def mkG(G:Genv)(rc:Rec)(nm:Names)(N:List Str)(x:Str)(args:List Expr):Option (Bool×Fe) :=
 if zct nm x&&!args.isEmpty then (G.ob.mks x).bind fun c=>(shL rc nm N args).bind fun fs =>
  if args.length+1=c.2.ar then some (false,eMk x [] c.2.run fs) else if args.length+c.1.length+1=c.2.ar then some (false,eMk x c.1 c.2.run fs) else none
 else none
noncomputable def zho:Expr->Bool | .Name _ _=>true | _=>false
def zwv(G:Genv)(rc:Rec)(nm:Names)(N:List Str)(o:Expr)(f:Str):Option (Bool×Fe):=if zho o&&!G.ob.df f&&G.ob.fk G.ob.cur f then (shE rc nm N o).map fun fo=>(false,zgl G.ob.cur f fo) else none
noncomputable def zwK:Expr->Option (Expr×Str×Pos) | .Attribute o m p=>some (o,m,p) | _=>none
def znn(h:zwK e=some x):e=.Attribute x.1 x.2.1 x.2.2:=by cases e<;>first | (cases h;done) | (cases h;rfl)
noncomputable def nmF:Expr->Option (Str×Pos) | .Name x p=>some (x,p) | _=>none
def zj3(h:nmF e=some x):e=.Name x.1 x.2:=by cases e<;>first | (cases h;done) | (cases h;rfl)
noncomputable def zpC:List CmpOp->Bool | [.NotIn]=>true | _=>false
noncomputable def zxQ:List Expr->Option Expr | [a]=>some a | _=>none
def zv1(G:Genv)(rc:Rec)(nm:Names)(N:List Str)(a:Expr)(ops:List CmpOp)(bs:List Expr):Option (Bool×Fe) :=
 if zpC ops then (zxQ bs).bind fun b=>(zwK b).bind fun t=>if zho t.1&&G.ob.df t.2.1&&G.ob.fk G.ob.cur t.2.1 then (shE rc nm N a).bind fun fa=>(shE rc nm N t.1).bind fun fo=>some (false,zpI G.ob.cur t.2.1 fa fo) else none else none
def zws(G:Genv)(rc:Rec)(nm:Names)(N:List Str)(a i:Expr):Option (Bool×Fe) :=
 (zwK a).bind fun t=>if zho t.1&&G.ob.df t.2.1&&G.ob.fk G.ob.cur t.2.1 then (nmF i).bind fun x=>(zco nm N x.1).bind fun j=>(shE rc nm N t.1).bind fun fo=>some (false,zlc G.ob.cur t.2.1 fo j) else none
def Gx.same(g:Gx cl G k X nm N E):Same' cl X:=⟨g.kk,g.pp,g.ww⟩
def Gx.u16(g:Gx cl G k X nm N E):X.A.units+16<cLine:=ycZ (Nat.add_le_add_left (by decide) _) g.units
def zaJ{α β:Type}{o:Option α}{f:α->Option β}{b:β}(h:o.bind f=some b):∃a,o=some a/\f a=some b:=by
 cases o with
 | none=>cases h
 | some a=>exact ⟨a,rfl,h⟩
def zud(hs:zbO cl G k rc)(g:Gx cl G k X nm N E)(h:zwv G rc nm N o f=some (w,fe)):w=false/\PE X (.Attribute o f pos) (tE cl E fe):=by
 unfold zwv at h;split at h
 ·rename_i hc;rw [yac,yac] at hc
  cases h1:shE rc nm N o with
  | none=>rw [h1] at h;cases h
  | some fo =>
   rw [h1] at h;cases h;refine ⟨rfl,zsM (g.gok.fk _ _ hc.2) g.kk (zaO hs g h1).1 ?_⟩
   cases o<;>first | rfl | cases hc.1.1
 ·cases h
def ztE(hs:zbO cl G k rc)(g:Gx cl G k X nm N E)(h:zv1 G rc nm N a ops bs=some (w,fe)):w=false/\PE X (.Compare a ops bs pos) (tE cl E fe)/\PT X (.Compare a ops bs pos) (tTr cl E fe):=by
 unfold zv1 at h;split at h
 ·rename_i hn
  have eo:ops=[.NotIn]:=by
   unfold zpC at hn;split at hn
   ·rfl
   ·cases hn
  subst eo;obtain ⟨b,h1,hz⟩:=zaJ h;obtain ⟨t,h2,hy⟩:=zaJ hz
  have eb:bs=[b]:=by
   unfold zxQ at h1;split at h1
   ·cases h1;rfl
   ·cases h1
  have e2:=znn h2;clear h hz h1 h2;subst eb;subst e2;obtain ⟨o,f,ap⟩:=t;dsimp only at hy ⊢;split at hy
  ·rename_i hc;rw [yac,yac] at hc;obtain ⟨fa,h3,hy⟩:=zaJ hy;obtain ⟨fo,h4,hy⟩:=zaJ hy;cases hy
   have hb:attributeBase o f X.env (eval o X.env)=eval o X.env:=by cases o<;>first | rfl | cases hc.1.1
   exact ⟨rfl,zsK g.u16 g.same (g.gok.fk _ _ hc.2) (zaO hs g h3).1 (zaO hs g h4).1 hb rfl,zsq g.u16 g.same (g.gok.fk _ _ hc.2) (zaO hs g h3).1 (zaO hs g h4).1 hb rfl⟩
  ·cases hy
 ·cases h
def zt9(hs:zbO cl G k rc)(g:Gx cl G k X nm N E)(h:zws G rc nm N a i=some (w,fe)):w=false/\PE X (.Subscript a i pos) (tE cl E fe):=by
 unfold zws at h;obtain ⟨t,h2,hz⟩:=zaJ h;have e2:=znn h2;clear h h2;subst e2;obtain ⟨o,f,ap⟩:=t;dsimp only at hz ⊢;split at hz
 ·rename_i hc;rw [yac,yac] at hc;obtain ⟨x,h3,hz⟩:=zaJ hz;obtain ⟨j,h4,hz⟩:=zaJ hz;obtain ⟨fo,h5,hz⟩:=zaJ hz;cases hz;have e3:=zj3 h3;clear h3;subst e3;obtain ⟨s1,s2,s3,s4⟩:=g.slot h4;refine ⟨rfl,zqm s1 s2 s3 s4 g.u16 g.same (g.gok.fk _ _ hc.2) (zaO hs g h5).1 ?_ (fun _ _=>rfl)⟩
  cases o<;>first | rfl | cases hc.1.1
 ·cases hz
def zAw(hp:args.all zcE=true)(hl:args.length<30):methodCallForm (args.length+0) (backTo pos (starEach args env)) (backToKw pos (keywordEach [] env))=true:=by
 have h:=zbW (pos:=pos) (env:=env) hp;unfold methodCallForm
 have h1:(backTo pos (starEach args env)).all (!·.1)=true:=by
  rw [List.all_eq_not_any_not];simpa using h
 rw [h1];show (true&&true&&decide (args.length+0+0<30))=true;rw [yaD (by omega)];rfl
def zmn(hb:attributeBase o m env (eval o env)=eval o env)(hf:methodCallForm (args.length+0) (backTo pos (starEach args env)) (backToKw pos (keywordEach [] env))=true)(hp:(ap.endLine == pos.line)=true) :
  eval (.Call (.Attribute o m ap) args [] pos) env=(do
   let ov ← eval o env
   standAt ap.atName
   let (f,first) ← holding [ov] (getMethod ov m (do return (← importBound o env).getD true))
   callWith pos f first (backTo pos (starEach args env)) (backToKw pos (keywordEach [] env))):=by
 show (do
  let ov ← attributeBase o m env (eval o env)
  standAt ap.atName
  methodCall o m ap pos env ov (args.length+0) (backTo pos (starEach args env)) (backToKw pos (keywordEach [] env)))=_
 rw [hb]
 have e:∀ov,methodCall o m ap pos env ov (args.length+0) (backTo pos (starEach args env)) (backToKw pos (keywordEach [] env))=(do
   let (f,first) ← holding [ov] (getMethod ov m (do return (← importBound o env).getD true))
   callWith pos f first (backTo pos (starEach args env)) (backToKw pos (keywordEach [] env))):=fun ov=>by
  unfold methodCall calleeOf methodCallPos;rw [hf,hp];rfl
 simp only [e]
def zqZ(hs:zbO cl G k rc)(g:Gx cl G k X nm N E)(h:zq0 G rc nm N o m ap pos args kws=some (w,fe)):(w=true->PE X (.Call (.Attribute o m ap) args kws pos) (tN cl E fe))/\PE X (.Call (.Attribute o m ap) args kws pos) (tE cl E fe):=by
 unfold zq0 at h;split at h
 ·rename_i hc;simp only [yac,ybh] at hc;obtain ⟨⟨⟨z1,z2⟩,z3⟩,z4⟩:=hc;obtain rfl:=ybt.mp z1;obtain ⟨⟨c,fi⟩,h1,h⟩:=zaJ h;dsimp only at h;split at h
  ·rename_i hl;obtain ⟨fo,h2,h⟩:=zaJ h;obtain ⟨fs,h3,h⟩:=zaJ h;cases h;obtain ⟨f,fd,ps,c1,c2,c3,c4⟩:=g.gok.mt m c fi h1;obtain ⟨a1,a2,a3⟩:=zfB hs g h3
   have hlen:fs.length+1=fi.ar:=by rw [a3];exact hl
   have hb:attributeBase o m X.env (eval o X.env)=eval o X.env:=by
    unfold zpk at z2
    split at z2<;>first | rfl | cases z2
   have ht:=zmn (ap:=ap) hb (zAw (pos:=pos) a2 z4) z3
   have main:PE X (.Call (.Attribute o m ap) args [] pos) (zhT (cl c) m (zhX cl fi.ar fi.own fi.run) [] E (tE cl E fo) (tAs cl E fs)):=by
    cases args with
    | nil =>
     cases h3;refine PE.imp (zl9 (zaO hs g h2).1 c1 c2 c4 g.room c3 .nil g.pass ht) ?_;rintro σ H Q ⟨B,w,ρ,S,rfl,R,q⟩;refine ⟨B,w,ρ,S,rfl,R,?_⟩
     cases hfo:fo ρ S with
     | bad=>rwa [hfo] at q
     | exc c S1=>rwa [hfo] at q
     | ok d S1 =>
      rw [hfo] at q;intro v w1 R1 F1 sh;obtain ⟨a,dx,fs,e1,e2,e3,B',w',ρ',S',e4,R',q⟩:=q v w1 R1 F1 sh;refine ⟨a,dx,fs,e1,e2,e3,?_⟩;have:=q [] w' R' (Fut.refl _) .nil;rwa [e4] at this
    | cons e es =>
     rw [ybK,yac] at a2;exact zob (zaO hs g h2).1 c1 c2 c4 g.room c3 .nil g.pass a1 (zbN a2.1) (zbW a2.2) ht
   cases ho:fi.own with
   | false =>
    rw [ho] at main;exact ⟨(fun z=>by cases z),PE.imp main fun _ _ _ q=>ztM q hlen⟩
   | true =>
    rw [ho] at main;have n:=PE.imp main fun _ _ _ q=>ztL q hlen
    exact ⟨fun _=>n,zd5 n⟩
  ·cases h
 ·cases h
def zv4(hs:zbO cl G k rc)(g:Gx cl G k X nm N E)(h:mkG G rc nm N x args=some (w,fe)):w=false/\PE X (.Call (.Name x p) args [] pos) (tE cl E fe):=by
 unfold mkG at h;split at h
 ·rename_i hc;rw [yac] at hc;obtain ⟨⟨dds,fi⟩,h1,h⟩:=zaJ h;obtain ⟨fs,h2,h⟩:=zaJ h;dsimp only at h;obtain ⟨f,fd,ps,dvs,ds,k',hk,mC,M,B0,BD,vd,sd,F⟩:=g.gok.mks x dds fi h1;obtain ⟨a1,a2,a3⟩:=zfB hs g h2;obtain ⟨g1,g2,g3⟩:=g.glob hc.1
  cases args with
  | nil=>cases hc.2
  | cons e es =>
   rw [ybK,yac] at a2;have hr:Room (k'+1) X.A:=g.room.mono hk;split at h
   ·rename_i hl;cases h;exact ⟨rfl,PE.imp (zjX M F hr g1 mC B0 .nil g.pass a1 g2 (zbN a2.1) (zbW a2.2)) fun _ _ _ q=>zxS (dds:=[]) (fun _=>.nil) q (by rw [a3];exact hl)⟩
   ·split at h
    ·rename_i hl;cases h;exact ⟨rfl,PE.imp (zjX M F hr g1 mC BD vd g.pass a1 g2 (zbN a2.1) (zbW a2.2)) fun _ _ _ q=>zxS sd q (by rw [a3];exact hl)⟩
    ·cases h
 ·cases h
end
noncomputable def ztI:Expr->Option Str | .Name x _=>some x | _=>none
noncomputable def zwo(df:Bool):Option NameKind->Bool | some .local=>true | some .cell=>df | _=>false
def tgI(df:Bool)(nm:Names)(N:List Str)(n:Nat)(x:Str):Option Nat:=if zwo df (nm.lookup x) then (idx N x).bind fun i=>if i<n then some i else none else none
def zrX(df:Bool)(nm:Names)(N:List Str)(n:Nat):List Expr->Option (List Nat)
 | []=>some []
 | .Name x _::es=>(tgI df nm N n x).bind fun i=>(zrX df nm N n es).bind fun is=>some (i::is)
 | _::_=>none
def tgG(df:Bool)(nm:Names)(N:List Str)(n:Nat):Expr->Option Tg
 | .Name x _=>(tgI df nm N n x).map .one
 | .Tuple es _ _=>(zrX df nm N n es).map .tup
 | _=>none
structure Sto'(X:Cx)(nm:Names)(df:Bool):Prop where
 fn:df=true->∀x,nm.lookup x=some .cell->X.fn x=true
section
variable{cl:Cf}{G:Genv}{k:Nat}{X:Cx}{nm:Names}{N:List Str}{E:St->XK}{df:Bool}{n:Nat}
def zfy(g:Gx cl G k X nm N E)(sd:Sto' X nm df)(h:tgI df nm N n x=some i):i<n/\X.N.Nodup/\X.N[i]?=some x/\Loc X.env.scope x/\(X.fn x=true\/X.env.scope.names.lookup x=some .local):=by
 unfold tgI at h;split at h
 ·rename_i hl
  cases hi:idx N x with
  | none=>rw [hi] at h;cases h
  | some j =>
   rw [hi] at h;dsimp only [Option.bind] at h;split at h
   ·rename_i hn;cases h;refine ⟨hn,by rw [g.eN];exact g.nd,by rw [g.eN];exact zhr hi,?_,?_⟩
    ·cases hk:nm.lookup x with
     | none=>rw [hk] at hl;cases hl
     | some kd =>
      obtain ⟨kd',e,z⟩:=g.vis x kd hk;rw [hk] at hl;unfold L2.Loc;rw [e]
      rcases z with rfl | ⟨rfl,_⟩
      ·cases kd'<;>first | exact .inl rfl | exact .inr rfl | cases hl
      ·cases hl
    ·cases hk:nm.lookup x with
     | none=>rw [hk] at hl;cases hl
     | some kd =>
      rw [hk] at hl
      cases kd<;>first | exact .inr (g.fnx x hk) | exact .inl (sd.fn hl x hk) | cases hl
   ·cases h
 ·cases h
theorem zlt(g:Gx cl G k X nm N E)(sd:Sto' X nm df):∀{es:List Expr} {is:List Nat},zrX df nm N n es=some is->PGs X es (tGs cl n is)/\(assignEach es X.env).length=is.length/\(assignEach es X.env).findIdx? (·.1)=none
 | [],is,h=>by cases h;exact ⟨zqg,rfl,rfl⟩
 | e::es,is,h=>by
  cases e with
  | Name x pos =>
   unfold zrX at h
   cases h1:tgI df nm N n x with
   | none=>rw [h1] at h;cases h
   | some i =>
    rw [h1] at h
    cases h2:zrX df nm N n es with
    | none=>rw [h2] at h;cases h
    | some is' =>
     rw [h2] at h;cases h;obtain ⟨a1,a2,a3,a4,a5⟩:=zfy g sd h1;obtain ⟨b1,b2,b3⟩:=zlt g sd h2;refine ⟨znN a1 a2 a3 a4 a5 b1,?_,?_⟩
     ·show (assignEach es X.env).length+1=_;rw [b2];rfl
     ·show ((false,assign (.Name x pos) X.env)::assignEach es X.env).findIdx? (·.1)=none;rw [List.findIdx?_cons];simp [b3]
  | _=>cases h
def zpW(g:Gx cl G k X nm N E)(sd:Sto' X nm df)(h:tgG df nm N n tg=some t):PG X tg (tG cl n t):=by
 unfold tgG at h;split at h
 ·rename_i x pos
  cases h1:tgI df nm N n x with
  | none=>rw [h1] at h;cases h
  | some i =>
   rw [h1] at h;cases h;obtain ⟨a1,a2,a3,a4,a5⟩:=zfy g sd h1;exact zsF a1 a2 a3 a4 a5
 ·rename_i es kk pos
  cases h1:zrX df nm N n es with
  | none=>rw [h1] at h;cases h
  | some is =>
   rw [h1] at h;cases h;obtain ⟨b1,b2,b3⟩:=zlt g sd h1;exact zsE g.calm b1 b2 b3
 ·cases h
end
def zbs:Expr->List Str
 | .Name x _=>[x]
 | .Tuple es _ _=>es.filterMap ztI
 | _=>[]
def zbz(names:Names)(N:List Str):List (Str×Nat):=names.filterMap fun p=>if p.2=.free then (idx N p.1).map fun i=>(p.1,i) else none
noncomputable def zAo:Option NameKind->Bool | some .cell=>true | some .free=>true | _=>false
def zm7(nm:Names)(scope:Scope)(xs:List Str)(caps:List (Str×Nat)):Bool :=
 decide (scope.kind=.function)&&decide ((scope.names.map (·.1)).Nodup)&&scope.names.all (fun y=>!decide (y.2=.local)||decide (scope.names.lookup y.1=some .local))
 && scope.names.all (fun y=>!decide (y.2=.free)||zAo (nm.lookup y.1))&&caps.all (fun p=>scope.names.all fun z=>!decide (z.1=p.1)||decide (z.2=.free))&&decide ((xs++caps.map (·.1)).Nodup)
def zoU(rc:Rec)(nm:Names)(N:List Str):List Expr->Option Fe
 | []=>some zdq
 | [c]=>if zbP c then shE rc nm N c else none
 | _=>none
def zle(G:Genv)(rc:Rec)(nm:Names)(N:List Str)(elt:Expr)(g:Comprehension)(scope:Scope):Option Fe :=
 if decide (g.is_async=0)&&zm7 nm scope (zbs g.target) (zbz scope.names N) then
  (zk7 G rc nm N g.target g.iter).bind fun it =>
  (tgG true scope.names (zbs g.target++(zbz scope.names N).map (·.1)) (zbs g.target).length g.target).bind fun t =>
  (zoU rc scope.names (zbs g.target++(zbz scope.names N).map (·.1)) g.ifs).bind fun c =>
  (shE rc scope.names (zbs g.target++(zbz scope.names N).map (·.1)) elt).bind fun el =>
  some (zb1 (zbs g.target).length t it c el ((zbz scope.names N).map (·.2)))
 else none
theorem zef{scope:Scope}{env:PySem.Env}:∀{names:Names} {x:Str} {kd:NameKind},names.lookup x=some kd →
  ∃kd',(names.map fun (n,k)=>if (k == NameKind.free&&env.scope.kind == .function&&env.kindOf n == some .cell) then (n,NameKind.cell) else (n,k)).lookup x=some kd'/\(kd'=kd\/(kd=.free/\kd'=.cell))
 | [],_,_,h=>by cases h
 | (n,k0)::r,x,kd,h=>by
  rw [yaE] at h;rw [yay];dsimp only
  by_cases hc:(k0 == NameKind.free&&env.scope.kind == .function&&env.kindOf n == some .cell)=true
  ·rw [if_pos hc,yaE]
   cases hx:x == n with
   | true =>
    rw [hx] at h;cases h;simp only [yac,ycq] at hc;exact ⟨_,rfl,.inr ⟨hc.1.1,rfl⟩⟩
   | false=>rw [hx] at h;exact zef (scope:=scope) h
  ·rw [if_neg hc,yaE]
   cases hx:x == n with
   | true=>rw [hx] at h;cases h;exact ⟨_,rfl,.inl rfl⟩
   | false=>rw [hx] at h;exact zef (scope:=scope) h
section
variable{cl:Cf}{G:Genv}{k:Nat}{rc:Rec}{X:Cx}{nm:Names}{N:List Str}{E:St->XK}
def zld(g:Gx cl G k X nm N E)(h:zm7 nm scope xs (zbz scope.names N)=true):CompScopeG X.env.scope scope X.N xs (zbz scope.names N)/\(xs++(zbz scope.names N).map (·.1)).Nodup:=by
 unfold zm7 at h;simp only [yac,ya1,ybh,ycN,yct,decide_eq_false_iff_not] at h;obtain ⟨⟨⟨⟨⟨h1,h2⟩,h3⟩,h4⟩,h5⟩,h6⟩:=h
 have fr:∀y∈scope.names,y.2=.free->X.env.scope.names.lookup y.1=some .cell\/X.env.scope.names.lookup y.1=some .free:=fun y hy hf=>by
  rcases h4 y hy with z | z
  ·exact absurd hf z
  ·cases hk:nm.lookup y.1 with
   | none=>rw [hk] at z;cases z
   | some kd =>
    obtain ⟨kd',e,zz⟩:=g.vis y.1 kd hk;rw [hk] at z;rw [e]
    rcases zz with rfl | ⟨_,rfl⟩
    ·cases kd'<;>first | exact .inl rfl | exact .inr rfl | cases z
    ·exact .inl rfl
 refine ⟨⟨h2,h1,fun y hy hl=>(h3 y hy).elim (fun z=>absurd hl z) fun z=>z,fr,fun p hp=>?_,fun p hp z hz e=>(h5 p hp z hz).elim (fun w=>absurd e w) fun w=>w⟩,h6⟩;unfold zbz at hp;obtain ⟨q,hq,e⟩:=ycc.mp hp;split at e
 ·rename_i hf
  cases hi:idx N q.1 with
  | none=>rw [hi] at e;cases e
  | some i =>
   rw [hi] at e;have e':(q.1,i)=p:=Option.some.inj e;subst e';refine ⟨by rw [g.eN];exact zhr hi,by rw [<-hf];exact hq,?_⟩
   rcases fr q hq hf with z | z<;>rw [z]<;>exact fun w=>by cases w
 ·cases e
def zhq(g:Gx cl G k X nm N E)(hn:(xs++(zbz scope.names N).map (·.1)).Nodup)(cl':List (Str×Addr))(C:Addr)(s:Shared)(H:Hp)(fp:List Addr) :
  Gx cl G k (zbu X xs (zbz scope.names N) scope cl' C s H fp) scope.names (xs++(zbz scope.names N).map (·.1)) noE where
 gok:=g.gok
 room:=g.room
 calm:=g.calm
 pass:=fun pins σ H s e s' I q=>by
  obtain ⟨a,cls,a0,H',B,_,_,_,_,_,_,_,_,_,z⟩:=q;exact z.elim
 eN:=rfl
 kk:=g.kk
 pp:=g.pp
 ww:=g.ww
 nd:=hn
 vis:=fun x kd h=>zef (scope:=scope) h
 fnx:=fun x h=>lookup_relabel_local h
def zry(hs:zbO cl G k rc)(g:Gx cl G k X nm N noE)(h:zoU rc nm N ifs=some c):PIf X ifs (tTr cl noE c):=by
 unfold zoU at h;split at h
 ·cases h;intro pins s σ H Q I q;obtain ⟨B,w,ρ,S,rfl,R,q⟩:=q;exact zqC pins s σ w.H Q I (q w R (Fut.refl _))
 ·split at h
  ·rename_i c ht;obtain ⟨_,a2,_⟩:=zaO hs g h;exact zqB (a2 ht)
  ·cases h
 ·cases h
def zgR(hs:zbO cl G k rc)(g:Gx cl G k X nm N E)(h:zle G rc nm N elt gg scope=some f) :
  ∃it t c el,f=zb1 (zbs gg.target).length t it c el ((zbz scope.names N).map (·.2))/\gg=⟨gg.target,gg.iter,gg.ifs,0⟩/\CompScopeG X.env.scope scope X.N (zbs gg.target) (zbz scope.names N)/\PI X gg.target gg.iter (tI cl E it)/\okE gg.iter=true ∧
   (∀cl' C s H fp,PG (zbu X (zbs gg.target) (zbz scope.names N) scope cl' C s H fp) gg.target (tG cl (zbs gg.target).length t)) ∧
   (∀cl' C s H fp,PIf (zbu X (zbs gg.target) (zbz scope.names N) scope cl' C s H fp) gg.ifs (tTr cl noE c)) ∧
   ∀cl' C s H fp,PE (zbu X (zbs gg.target) (zbz scope.names N) scope cl' C s H fp) elt (tE cl noE el):=by
 unfold zle at h;split at h
 ·rename_i hc;rw [yac] at hc;obtain ⟨S,hn⟩:=zld g hc.2
  cases h1:zk7 G rc nm N gg.target gg.iter with
  | none=>rw [h1] at h;cases h
  | some it =>
   rw [h1] at h;dsimp only [Option.bind] at h
   cases h2:tgG true scope.names (zbs gg.target++(zbz scope.names N).map (·.1)) (zbs gg.target).length gg.target with
   | none=>rw [h2] at h;cases h
   | some t =>
    rw [h2] at h;dsimp only at h
    cases h3:zoU rc scope.names (zbs gg.target++(zbz scope.names N).map (·.1)) gg.ifs with
    | none=>rw [h3] at h;cases h
    | some c =>
     rw [h3] at h;dsimp only at h
     cases h4:shE rc scope.names (zbs gg.target++(zbz scope.names N).map (·.1)) elt with
     | none=>rw [h4] at h;cases h
     | some el =>
      rw [h4] at h;cases h;obtain ⟨i1,i2⟩:=zmH hs g (tg:=gg.target) h1;refine ⟨it,t,c,el,rfl,?_,S,i1,i2,fun cl' C s H fp=>zpW (zhq g hn cl' C s H fp) ⟨fun _ x hx=>yaD hx⟩ h2,fun cl' C s H fp=>zry hs (zhq g hn cl' C s H fp) h3,fun cl' C s H fp=>(zaO hs (zhq g hn cl' C s H fp) h4).1⟩;have:=yar hc.1;cases gg;simp only at this;rw [this]
 ·cases h
def zm5(hs:zbO cl G k rc)(g:Gx cl G k X nm N E)(h:zle G rc nm N elt gg scope=some f):PE X (.ListComp elt [gg] scope pos) (tN cl E f):=by
 obtain ⟨it,t,c,el,rfl,eg,S,i1,i2,i3,i4,i5⟩:=zgR hs g h;rw [eg];exact PE.imp (zof g.calm S i1 i3 i4 i5 (zhj i2)) fun _ _ _ q=>zpM q
end
noncomputable def zyL:Expr->Bool | .Slice _ _ _ _=>false | _=>true
def zuQ(rc:Rec)(nm:Names)(N:List Str):Option Expr->Option (Option Fe)
 | none=>some none
 | some e=>(opE rc nm N e).map some
def unG(rc:Rec)(nm:Names)(N:List Str)(a:Expr):UnaryOp->Option (Bool×Fe)
 | .Not=>if zbP a then (shE rc nm N a).map fun f=>(false,eUn zd1 f) else none
 | .USub=>(opE rc nm N a).map fun f=>(false,eUn zpx f)
 | _=>none
def zup(rc:Rec)(nm:Names)(N:List Str)(a:Expr):List CmpOp->List Expr->Option (Bool×Fe)
 | [op],[b]=>(zuq op b).bind fun g=>(opE rc nm N a).bind fun f=>(opE rc nm N b).bind fun h=>some (false,zah g f h)
 | [op,op'],[b,c]=>(zuq op b).bind fun g=>(zuq op' c).bind fun g'=>(opE rc nm N a).bind fun f=>(opE rc nm N b).bind fun h=>(opE rc nm N c).bind fun k=>some (false,zc6 g g' f h k)
 | _,_=>none
def zxK(rc:Rec)(nm:Names)(N:List Str)(a:Expr):Expr->Option (Bool×Fe)
 | .Slice lo hi none _=>(opE rc nm N a).bind fun f=>(zuQ rc nm N lo).bind fun l=>(zuQ rc nm N hi).bind fun u=>some (false,eSl f l u)
 | i=>if zyL i then (opE rc nm N a).bind fun f=>(opE rc nm N i).bind fun h=>some (false,zah ixD f h) else none
def zyQ(rc:Rec)(nm:Names)(N:List Str)(x m:Str)(ap cp:Pos):List Expr->List Keyword->Option (Bool×Fe)
 | [a],[]=>if ap.endLine == cp.line then (zco nm N x).bind fun i=>(opE rc nm N a).bind fun f=>if decide (m = "index") then some (false,ziL i f) else none else none
 | [a,b],[]=>if decide (m = "get")&&(ap.endLine == cp.line) then (zco nm N x).bind fun i=>(shE rc nm N a).bind fun f=>(shE rc nm N b).bind fun h=>some (false,ziM i f h) else none
 | _,_=>none
def zpN(G:Genv)(rc:Rec)(nm:Names)(N:List Str)(args:List Expr)(kws:List Keyword)(cp:Pos):Expr->Option (Bool×Fe)
 | .Attribute o m ap=>(match (nmF o).bind fun x=>zyQ rc nm N x.1 m ap cp args kws with | some p=>some p | none=>zq0 G rc nm N o m ap cp args kws)
 | .Name x _=>if kws.isEmpty then (match mkG G rc nm N x args with | some p=>some p | none=>(match spG G rc nm N x args with | some p=>some p | none=>zrI G rc nm N x args)) else none
 | _=>none
def lcG(G:Genv)(rc:Rec)(nm:Names)(N:List Str)(elt:Expr)(scope:Scope):List Comprehension->Option (Bool×Fe)
 | [g]=>(zle G rc nm N elt g scope).map fun f=>(true,f)
 | _=>none
def zbt(G:Genv)(rc:Rec):Rec:=fun nm N e=>match e with
 | .Constant c _ _=>(zyO c).map fun d=>(false,zag d)
 | .Name x _=>(match zco nm N x with
  | some i=>some (false,zac i)
  | none=>if zct nm x then (G.con x).map fun d=>(false,zag d) else none)
 | .Tuple es _ _=>(shL rc nm N es).map fun fs=>(false,zc5 fs)
 | .List es _=>(shL rc nm N es).map fun fs=>(true,ze9 fs)
 | .BinOp a op b _=>(zwI op).bind fun g=>(opE rc nm N a).bind fun f=>(opE rc nm N b).bind fun h=>some (false,zah g f h)
 | .UnaryOp op a _=>unG rc nm N a op
 | .BoolOp op es _=>(zli rc nm N op es).map fun f=>(false,f)
 | .Compare a ops bs _=>(match zv1 G rc nm N a ops bs with | some p=>some p | none=>zup rc nm N a ops bs)
 | .IfExp c a b _=>if zbP c then (shE rc nm N c).bind fun g=>(shE rc nm N a).bind fun f=>(shE rc nm N b).bind fun h=>some (false,eIf g f h) else none
 | .Subscript a i _=>(match zws G rc nm N a i with | some p=>some p | none=>zxK rc nm N a i)
 | .Attribute o f _=>zwv G rc nm N o f
 | .Call f args kws cp=>zpN G rc nm N args kws cp f
 | .ListComp elt gs scope _=>lcG G rc nm N elt scope gs
 | .Dict [] [] _=>some (true,zoO)
 | _=>none
noncomputable def zwC(G:Genv):Nat->Rec
 | 0=>fun _ _ _=>none
 | n+1=>zbt G (zwC G n)
section
variable{cl:Cf}{G:Genv}{k:Nat}{rc:Rec}
def zoA(h:zyL i=true):zhI i:=by
 intro o j
 cases i<;>first | rfl | cases h
def zaa{α β:Type}{o:Option α}{f:α->Option β}{b:β}(h:o.bind f=some b):∃a,o=some a/\f a=some b:=by
 cases o with
 | none=>cases h
 | some a=>exact ⟨a,rfl,h⟩
def za3{α β:Type}{o:Option α}{f:α->β}{b:β}(h:o.map f=some b):∃a,o=some a/\f a=b:=by
 cases o with
 | none=>cases h
 | some a=>exact ⟨a,rfl,Option.some.inj h⟩
def zjY(hs:zbO cl G k rc)(g:Gx cl G k X nm N E)(h:zuQ rc nm N o=some f):PO X o (zuP cl E f):=by
 unfold zuQ at h;split at h
 ·cases h;exact zqz
 ·obtain ⟨a,h1,rfl⟩:=za3 h;exact zqy (zdo hs g h1).1
def zoS(hs:zbO cl G k rc):zbO cl G k (zbt G rc):=by
 intro X nm N E g e o f h;cases e
 case Constant =>
  unfold zbt at h;dsimp only at h;obtain ⟨d,h1,h2⟩:=za3 h;cases h2;rename_i c kk pos
  have p:PE X (.Constant c kk pos) (tE cl E (zag d)):=by
   cases c<;>simp [zyO] at h1<;>subst h1
   ·exact zlN ztc fun w=>.non
   ·exact zlN zvS fun w=>.bl _
   ·exact zlN zte fun w=>.int _
   ·exact zlN zs8 fun w=>.str _
  exact ⟨(fun z=>by cases z),p,fun _=>zbQ p (fun _=>rfl),rfl⟩
 case Name =>
  unfold zbt at h;dsimp only at h;rename_i x pos;split at h
  ·rename_i i hi;cases h;obtain ⟨h1,h2,h3,h4⟩:=g.slot hi;have p:PE X (.Name x pos) (tE cl E (zac i)):=zsG h1 h2 h3 h4;exact ⟨(fun z=>by cases z),p,fun _=>zbQ p (fun _=>rfl),rfl⟩
  ·split at h
   ·rename_i hg;obtain ⟨d,h1,h2⟩:=za3 h;cases h2;obtain ⟨g1,g2,g3⟩:=g.glob hg;obtain ⟨v,u,m,r,sh⟩:=g.gok.con x d h1;have p:PE X (.Name x pos) (tE cl E (zag d)):=zlN (zqE g1 m r g2) sh;exact ⟨(fun z=>by cases z),p,fun _=>zbQ p (fun _=>rfl),rfl⟩
   ·cases h
 case Tuple =>
  unfold zbt at h;dsimp only at h;obtain ⟨fs,h1,h2⟩:=za3 h;cases h2;rename_i es kk pos;have p:PE X (.Tuple es kk pos) (tE cl E (zc5 fs)):=zsH (zfB hs g h1).1;exact ⟨(fun z=>by cases z),p,fun _=>zbQ p (fun _=>rfl),rfl⟩
 case List =>
  unfold zbt at h;dsimp only at h;obtain ⟨fs,h1,h2⟩:=za3 h;cases h2;rename_i es pos;have p:PE X (.List es pos) (tN cl E (ze9 fs)):=zsL (zfB hs g h1).1;exact ⟨fun _=>p,zd5 p,fun _=>zbQ (zd5 p) (fun _=>rfl),rfl⟩
 case BinOp =>
  unfold zbt at h;dsimp only at h;obtain ⟨gg,h1,h⟩:=zaa h;obtain ⟨fa,h2,h⟩:=zaa h;obtain ⟨fb,h3,h⟩:=zaa h;cases h;exact ⟨(fun z=>by cases z),zpi (zpO h1) (zdo hs g h2).1 (zdo hs g h3).1,fun _=>zbQ (zpi (zpO h1) (zdo hs g h2).1 (zdo hs g h3).1) (fun _=>rfl),rfl⟩
 case UnaryOp =>
  unfold zbt at h;dsimp only at h;rename_i op a pos;unfold unG at h;split at h
  ·split at h
   ·rename_i ht;obtain ⟨fa,h1,h2⟩:=za3 h;cases h2;obtain ⟨a1,a2,_⟩:=zaO hs g h1;exact ⟨(fun z=>by cases z),zsJ a1,fun _=>zsp (a2 ht),rfl⟩
   ·cases h
  ·obtain ⟨fa,h1,h2⟩:=za3 h;cases h2;have p:PE X (.UnaryOp .USub a pos) (tE cl E (eUn zpx fa)):=zvC zr9 (zdo hs g h1).1;exact ⟨(fun z=>by cases z),p,fun _=>zbQ p (fun _=>rfl),rfl⟩
  ·cases h
 case BoolOp =>
  unfold zbt at h;dsimp only at h;obtain ⟨fa,h1,h2⟩:=za3 h;cases h2;rename_i op es pos;obtain ⟨b1,b2⟩:=znk hs g (pos:=pos) h1;exact ⟨(fun z=>by cases z),b1,fun _=>b2.pt,rfl⟩
 case Compare =>
  unfold zbt at h;dsimp only at h;rename_i a ops bs pos;split at h
  ·rename_i p hp;obtain ⟨w,fe⟩:=p;cases h;obtain ⟨rfl,n1,n2⟩:=ztE hs g (pos:=pos) hp;exact ⟨(fun z=>by cases z),n1,fun _=>n2,rfl⟩
  unfold zup at h;split at h
  ·obtain ⟨gg,h1,h⟩:=zaa h;obtain ⟨fa,h2,h⟩:=zaa h;obtain ⟨fb,h3,h⟩:=zaa h;cases h;obtain ⟨a1,_⟩:=zdo hs g h2;obtain ⟨b1,b2⟩:=zdo hs g h3;exact ⟨(fun z=>by cases z),zsN (zgT g h1) a1 b1 (zfN b2),fun _=>zsr (zgT g h1) a1 b1 (zfN b2),rfl⟩
  ·obtain ⟨gg,h1,h⟩:=zaa h;obtain ⟨gg',h1',h⟩:=zaa h;obtain ⟨fa,h2,h⟩:=zaa h;obtain ⟨fb,h3,h⟩:=zaa h;obtain ⟨fc,h4,h⟩:=zaa h;cases h;obtain ⟨a1,_⟩:=zdo hs g h2;obtain ⟨b1,_⟩:=zdo hs g h3;obtain ⟨c1,c2⟩:=zdo hs g h4;have hm:∀{op op':CmpOp} {b c:Expr},okE c=true->lastMarks [op,op'] [b,c]=false:=fun h=>zfN h
   exact ⟨(fun z=>by cases z),znQ (zgT g h1) (zgT g h1') a1 b1 c1 (hm c2),fun _=>znJ (zgT g h1) (zgT g h1') a1 b1 c1 (hm c2),rfl⟩
  ·cases h
 case IfExp =>
  unfold zbt at h;dsimp only at h;split at h
  ·rename_i c a b pos ht;obtain ⟨fc,h1,h⟩:=zaa h;obtain ⟨fa,h2,h⟩:=zaa h;obtain ⟨fb,h3,h⟩:=zaa h;cases h;obtain ⟨_,c2,_⟩:=zaO hs g h1;exact ⟨(fun z=>by cases z),zvG (c2 ht) (zaO hs g h2).1 (zaO hs g h3).1,(fun z=>by cases z),rfl⟩
  ·cases h
 case Subscript =>
  unfold zbt at h;dsimp only at h;rename_i a i pos;split at h
  ·rename_i p hp;obtain ⟨w,fe⟩:=p;cases h;obtain ⟨rfl,n1⟩:=zt9 hs g (pos:=pos) hp;exact ⟨(fun z=>by cases z),n1,fun _=>zbQ n1 (fun _=>rfl),rfl⟩
  unfold zxK at h;split at h
  ·obtain ⟨fa,h1,h⟩:=zaa h;obtain ⟨fl,h2,h⟩:=zaa h;obtain ⟨fu,h3,h⟩:=zaa h;cases h;exact ⟨(fun z=>by cases z),zsI (zdo hs g h1).1 (zjY hs g h2) (zjY hs g h3),fun _=>zbQ (zsI (zdo hs g h1).1 (zjY hs g h2) (zjY hs g h3)) (fun _=>rfl),rfl⟩
  ·split at h
   ·rename_i hix;obtain ⟨fa,h1,h⟩:=zaa h;obtain ⟨fb,h2,h⟩:=zaa h;cases h;have p:PE X (.Subscript a _ pos) (tE cl E (zah ixD fa fb)):=zvF (zwp g.kk) (zdo hs g h1).1 (zdo hs g h2).1 (zoA hix);exact ⟨(fun z=>by cases z),p,fun _=>zbQ p (fun _=>rfl),rfl⟩
   ·cases h
 case Attribute =>
  unfold zbt at h;dsimp only at h;rename_i o fl pos;obtain ⟨rfl,n1⟩:=zud hs g (pos:=pos) h;exact ⟨(fun z=>by cases z),n1,fun _=>zbQ n1 (fun _=>rfl),rfl⟩
 case Call =>
  unfold zbt at h;dsimp only at h;rename_i fn args kws cp;unfold zpN at h;split at h
  ·rename_i o m ap;split at h
   rotate_left
   ·obtain ⟨a1,a2⟩:=zqZ hs g (ap:=ap) (pos:=cp) h;exact ⟨a1,a2,fun _=>zbQ a2 (fun _=>rfl),rfl⟩
   rename_i pp hpp;obtain ⟨⟨x,p⟩,e1,h2⟩:=zaa hpp;have e2:=zj3 e1;have h3:=h;cases h3;clear hpp e1;subst e2;replace h:=h2;clear h2;dsimp only at h ⊢;unfold zyQ at h;split at h
   ·rename_i a;split at h
    ·rename_i hln;obtain ⟨i,h1,h⟩:=zaa h;obtain ⟨fa,h2,h⟩:=zaa h;split at h
     ·rename_i hix;have em:=yar hix;cases h;subst em;obtain ⟨n1,n2,n3,n4⟩:=g.slot h1;obtain ⟨a1,a3⟩:=zdo hs g h2;have p:PE X (.Call (.Attribute (.Name x p) "index" ap) [a] [] cp) (tE cl E (ziL i fa)):=zqj g.kk (by have:=g.units;omega) n1 n2 n3 n4 a1 (zar a3) hln;exact ⟨(fun z=>by cases z),p,fun _=>zbQ p (fun _=>rfl),rfl⟩
     cases h
    ·cases h
   ·rename_i a b;split at h
    ·rename_i hc;rw [yac] at hc;have em:=yar hc.1;obtain ⟨i,h1,h⟩:=zaa h;obtain ⟨fa,h2,h⟩:=zaa h;obtain ⟨fb,h3,h⟩:=zaa h;cases h;subst em;obtain ⟨n1,n2,n3,n4⟩:=g.slot h1;obtain ⟨a1,a2,a3⟩:=zaO hs g h2;obtain ⟨b1,b2,b3⟩:=zaO hs g h3;have q:PE X (.Call (.Attribute (.Name x p) "get" ap) [a,b] [] cp) (tE cl E (ziM i fa fb)):=zql g.same n1 n2 n3 n4 a1 b1 ⟨rfl,ziG (by simp [zar a3,zar b3]) (by simp),hc.2,by rw [zbN (zar a3),zbN (zar b3)];rfl⟩;exact ⟨(fun z=>by cases z),q,fun _=>zbQ q (fun _=>rfl),rfl⟩
    ·cases h
   ·cases h
  ·rename_i x p;split at h
   ·rename_i hk
    have hk':kws=[]:=by simpa using hk
    subst hk';split at h
    ·rename_i pm hmk;obtain ⟨w,fe⟩:=pm;cases h;obtain ⟨rfl,n1⟩:=zv4 hs g (p:=p) (pos:=cp) hmk;exact ⟨(fun z=>by cases z),n1,fun _=>zbQ n1 (fun _=>rfl),rfl⟩
    split at h
    ·rename_i hsp;cases h;obtain ⟨a1,a2⟩:=zvA hs g (p:=p) (pos:=cp) hsp;exact ⟨a1,a2,fun _=>zbQ a2 (fun _=>rfl),rfl⟩
    ·obtain ⟨a1,a2⟩:=zrH hs g (p:=p) (pos:=cp) h;exact ⟨a1,a2,fun _=>zbQ a2 (fun _=>rfl),rfl⟩
   ·cases h
  ·cases h
 case ListComp =>
  unfold zbt at h;dsimp only at h;rename_i elt gs scope pos;unfold lcG at h;split at h
  ·obtain ⟨fa,h1,h2⟩:=za3 h;cases h2;rename_i gg;have p:PE X (.ListComp elt [gg] scope pos) (tN cl E f):=zm5 hs g h1;exact ⟨fun _=>p,zd5 p,fun _=>zbQ (zd5 p) (fun _=>rfl),rfl⟩
  ·cases h
 case Dict ks vs _ =>
  cases ks with
  | cons _ _=>cases h
  | nil =>
   cases vs with
   | cons _ _=>cases h
   | nil =>
    unfold zbt at h;dsimp only at h;rename_i pos;cases h;exact ⟨fun _=>zi4 g.same,zd5 (zi4 g.same),fun _=>zbQ (zd5 (zi4 g.same)) (fun _=>rfl),rfl⟩
 all_goals cases h
theorem zpK:∀n,zbO cl G k (zwC G n)
 | 0=>fun _ _ _ _ _ _ _ _ h=>by cases h
 | n+1=>zoS (zpK n)
end
noncomputable def znu(X:Cx)(E:St->XK):Prop:=∀(C:Addr) (pins:Z3) (σ:St) (H:Hp) (s:Shared) (e:Addr) (h':Heap) (vs:List Value),Inv X pins σ H s->Heap.MadeExcOf s.heap h' e (.ref C) vs->E σ (.ref C) none H->X.xe (.ref e) { s with heap:=h' }
noncomputable def zp0(C:Addr)(E:St->XK)(t:TA):TS:=fun _ σ H=>t σ H fun vs H1=>vs.length<=sizeLine/\E σ (.ref C) none H1
theorem zl4(hr:znu X E)(hc:X.calm=true)(hg:Gl X x)(hm:X.mg x=some (.ref C))
  (z:PySem.W.excIn X.K C bmV "ValueError.__new__" = true) (ha:PA X (e::es) t)
  (he:starEach (e::es) X.env=(false,eval e X.env)::starEach es X.env) (hpl:(backTo cpos (starEach es X.env)).any (·.1)=false) (hdb:(x == ("__debug__":Str))=false) :
  PS X (.Raise (some (.Call (.Name x np) (e::es) [] cpos)) none pos) (zp0 C E t):=by
 intro pins s σ H D I h;obtain ⟨bm,N,nm,qn,bs,hd,sn,sub,ab,col,dd,c0,c1,c2,c3,c5,mN,o1,o2,o3,o4⟩:=zrr I.mod.kin z
 refine wpAny_Raise_call_subU (C:=C) (nm:=nm) (q:=qn) (N:=N) (bs:=bs) (bm:=bm) (hdct:=hd) (sn:=sn) (sub:=sub) (ab:=ab) (col:=col) (dd:=dd) (k0:=c0) (k1:=c1) (k2:=c2) (k3:=c3) (k5:=c5)
  ybY (by decide +kernel) ybY (mN:=mN) (o4.hasType ybY.hasBase) (I.ok.hd hc) (by rw [he];show (false||(backTo cpos (starEach es X.env)).any (·.1))=false;rw [hpl];rfl) o3 (zfS I hg hm ⟨rfl,?_⟩ hdb)
 have go:=ha cpos pins s σ H _ I h;rw [he] at go ⊢;exact ybZ (thn go fun us s2 ⟨vs,H2,I2,r2,q1,q2⟩=>⟨rfl,by rw [<-r2.length];exact q1,I2.bk _ _ o1,o2.keeps I2.bk,o4.keeps I2.bk,fun h' a mk=>hr C pins σ H2 s2 a h' us I2 mk q2⟩)
def sRz(c:Str)(fs:List Fe):Fs:=fun ρ S=>match zan fs ρ S with | .ok ds S'=>if zbb ds.length then .ex c ρ S' else .bad | .exc x S'=>.ex x ρ S' | .bad=>.bad
noncomputable def zAK(X:Cx)(pins:Z3)(E:St->XK):Cx:={ X with pn:=X.pn++pins,xe:=fun e s'=>∃σ H1 s1,Inv X pins σ H1 s1/\CXE X.prog X.w X.stack H1 s1 (E σ) e s' }
noncomputable def zAL(K:PySem.W.Frag)(C:Addr)(i:Nat)(th:TS)(De:Ends):St->XK:=fun σ cls _ H'=>∃C',cls=.ref C'/\zrU K C' C/\∀a ob,H' a=none->ob.cls=.ref C'->th (De.goes i) (σ.set i (some (.ref a))) (upd H' a (.frz ob (.own a)))
noncomputable def zgF:Expr->Bool | .ListComp _ _ _ _=>true | .SetComp _ _ _ _=>true | .DictComp _ _ _ _ _=>true | _=>false
def zg2(h:zgF e=false):swapsWith e t l env=pure false:=by
 cases e<;>first | rfl | cases h
structure Gd(cl:Cf)(G:Genv)(k:Nat)(X:Cx)(nm:Names)(N:List Str)(E:St->XK)(full:Bool):Prop where
 gx:Gx cl G k X nm N E
 fn:∀x,X.fn x=true
 kind:X.env.scope.kind=.function
 sc:X.env.scope.names=nm
 own:full=true->PassesOwn (model X.prog X.w) X.A X.env X.xe
 raises:full=true->znu X E
 stk:X.stack=X.env::X.outer
 frm:X.env.frame=some X.env.locals
def zda:Nat->Names->List Str->Expr->List Nat
 | 0,_,_,_=>[]
 | n+1,nm,N,e =>
  let rc:=zda n nm N
  let op:=fun (e:Expr)=>match e with | .Name _ _=>[] | e=>rc e
  match e with
  | .Name x _=>(zco nm N x).toList
  | .Tuple es _ _=>es.flatMap rc
  | .List es _=>es.flatMap rc
  | .BinOp a _ b _=>op a++op b
  | .UnaryOp _ a _=>rc a
  | .BoolOp _ es _=>es.flatMap rc
  | .Compare a _ bs _=>op a++bs.flatMap op
  | .IfExp c a b _=>rc c++rc a++rc b
  | .Subscript a (.Slice lo hi _ _) _=>op a++lo.toList.flatMap op++hi.toList.flatMap op
  | .Subscript a i _=>op a++op i
  | .Call (.Name f _) args [] _=>if (znl f).isSome||decide (f = "isinstance") then args.flatMap op else args.flatMap rc
  | .Call (.Attribute o _ _) args [] _=>op o++args.flatMap rc
  | .Dict _ _ _=>[]
  | .Attribute o _ _=>op o
  | .ListComp _ [g] scope _=>rc g.iter++(zbz scope.names N).map (·.2)
  | _=>[]
def zg6(t:Tg)(f:Fe):Fs:=fun ρ S=>match f ρ S with
 | .ok d S'=>(match t.put ρ d with | some ρ'=>.nx ρ' S' | none=>.bad)
 | .exc c S'=>.ex c ρ S'
 | .bad=>.bad
noncomputable def zAm:Expr->Bool | .Name _ _=>true | .Constant _ _ _=>true | .Subscript _ _ _=>true | .BinOp _ _ _ _=>true | _=>false
noncomputable def zru:Expr->Option (List (Option Expr)×List Expr×Pos) | .Dict ks vs p=>some (ks,vs,p) | _=>none
def zoQ(h:zru e=some x):e=.Dict x.1 x.2.1 x.2.2:=by cases e<;>first | (cases h;done) | (cases h;rfl)
def zjh(e:Expr):Bool:=match zru e with | some x=>x.1.isEmpty&&x.2.1.isEmpty | none=>false
def zoR(h:zjh e=true):∃p,e=.Dict [] [] p:=by
 unfold zjh at h
 cases h1:zru e with
 | none=>rw [h1] at h;cases h
 | some x =>
  rw [h1] at h;dsimp only at h;rw [yac,ybt,ybt] at h;exact ⟨_,by rw [zoQ h1,h.1,h.2]⟩
noncomputable def ztq{α:Type}:List α->Option α | [a]=>some a | _=>none
def zmg{α:Type}{l:List α}{a:α}(h:ztq l=some a):l=[a]:=by
 cases l with
 | nil=>cases h
 | cons b t=>cases t with
  | nil=>cases h;rfl
  | cons _ _=>cases h
noncomputable def zis:Expr->Option (Str×Pos) | .Name x p=>some (x,p) | _=>none
def zeK(h:zis e=some x):e=.Name x.1 x.2:=by cases e<;>first | (cases h;done) | (cases h;rfl)
noncomputable def zrJ:Expr->Option (Expr×List Expr×List Keyword×Pos) | .Call f a k p=>some (f,a,k,p) | _=>none
def zkz(h:zrJ e=some x):e=.Call x.1 x.2.1 x.2.2.1 x.2.2.2:=by cases e<;>first | (cases h;done) | (cases h;rfl)
noncomputable def zr3:Expr->Option (Expr×Str×Pos) | .Attribute o m p=>some (o,m,p) | _=>none
def zjx(h:zr3 e=some x):e=.Attribute x.1 x.2.1 x.2.2:=by cases e<;>first | (cases h;done) | (cases h;rfl)
noncomputable def zAA:Stmt->Option (List Expr×Expr×Pos) | .Assign t e p=>some (t,e,p) | _=>none
def zwP(h:zAA e=some x):e=.Assign x.1 x.2.1 x.2.2:=by cases e<;>first | (cases h;done) | (cases h;rfl)
noncomputable def zrW:Expr->Option (List Expr×Nat×Pos) | .Tuple es k p=>some (es,k,p) | _=>none
def zls(h:zrW e=some x):e=.Tuple x.1 x.2.1 x.2.2:=by cases e<;>first | (cases h;done) | (cases h;rfl)
noncomputable def zxL:Expr->Option (Expr×Expr×Pos) | .Subscript a i p=>some (a,i,p) | _=>none
def zp2(h:zxL e=some x):e=.Subscript x.1 x.2.1 x.2.2:=by cases e<;>first | (cases h;done) | (cases h;rfl)
noncomputable def lcE:Expr->Option (Expr×List Comprehension×Scope×Pos) | .ListComp elt gs scope p=>some (elt,gs,scope,p) | _=>none
def ztO(h:lcE e=some x):e=.ListComp x.1 x.2.1 x.2.2.1 x.2.2.2:=by cases e<;>first | (cases h;done) | (cases h;rfl)
def zwQ(G:Genv)(rc:Rec)(nm:Names)(N:List Str)(x:Str)(e:Expr):Option Fs :=
 (tgI true nm N N.length x).bind fun i=>match lcE e with
  | some c=>(ztq c.2.1).bind fun g=>(zle G rc nm N c.1 g c.2.2.1).bind fun f=>some (zbg i true f)
  | none=>if zgF e then none else (rc nm N e).bind fun p=>some (zbg i p.1 p.2)
noncomputable def l2N:List Expr->Option ((Str×Pos)×Str×Pos) | [.Name x p,.Name y q]=>some ((x,p),y,q) | _=>none
def ztQ(h:l2N l=some x):l=[.Name x.1.1 x.1.2,.Name x.2.1 x.2.2]:=by
 unfold l2N at h;split at h
 ·cases h;rfl
 ·cases h
noncomputable def a2E:List Expr->Option (Expr×Pos) | [a,.List [] p]=>some (a,p) | _=>none
def zuH(h:a2E l=some x):l=[x.1,.List [] x.2]:=by
 unfold a2E at h;split at h
 ·cases h;rfl
 ·cases h
def zrR(rc:Rec)(nm:Names)(N:List Str)(ts vs:List Expr):Option Fs:=(l2N ts).bind fun x=>(a2E vs).bind fun c=>(tgI true nm N N.length x.1.1).bind fun i=>(tgI true nm N N.length x.2.1).bind fun j=>(rc nm N c.1).bind fun p=>if p.1 then some (zkR i j p.2) else none
def zyR(rc:Rec)(nm:Names)(N:List Str)(t:List Expr×Nat×Pos)(vs:List Expr)(e:Expr):Option Fs:=match zrR rc nm N t.1 vs with
 | some f=>some f
 | none=>(tgG true nm N N.length (.Tuple t.1 t.2.1 t.2.2)).bind fun t=>(shE rc nm N e).bind fun f=>some (zg6 t f)
def zwO(rc:Rec)(nm:Names)(N:List Str)(t:List Expr×Nat×Pos)(e:Expr):Option Fs:=match zrW e with
 | some v=>if zwG nm t.1 then zyR rc nm N t v.1 e else none
 | none=>(tgG true nm N N.length (.Tuple t.1 t.2.1 t.2.2)).bind fun t=>(shE rc nm N e).bind fun f=>some (zg6 t f)
def zwS(G:Genv)(rc:Rec)(nm:Names)(N:List Str)(o:Expr)(f:Str)(e:Expr):Option Fs :=
 (nmF o).bind fun x=>if zjh e then (if G.ob.df f&&G.ob.fk G.ob.cur f then (zco nm N x.1).map fun i=>zkS G.ob.cur f i else none) else (if G.ob.df f||!G.ob.fk G.ob.cur f then none else (shE rc nm N o).bind fun fo=>(shE rc nm N e).bind fun fe=>some (zg5 G.ob.cur f fo fe))
def zwR(G:Genv)(rc:Rec)(nm:Names)(N:List Str)(o:Expr)(f:Str)(ix e:Expr):Option Fs :=
 if zho o&&G.ob.df f&&!zgF e&&G.ob.fk G.ob.cur f then (nmF ix).bind fun x=>(zco nm N x.1).bind fun i=>(shE rc nm N o).bind fun fo=>(shE rc nm N e).bind fun fe=>some (zkQ G.ob.cur f fo i fe) else none
def zwT(rc:Rec)(nm:Names)(N:List Str)(x:Str)(ix e:Expr):Option Fs :=
 if zAm ix&&!zgF e then (zco nm N x).bind fun i=>(shE rc nm N ix).bind fun k=>(shE rc nm N e).bind fun f=>some (zi5 i k f) else none
def zuF(G:Genv)(rc:Rec)(nm:Names)(N:List Str)(q:Expr×Expr×Pos)(e:Expr):Option Fs:=match zr3 q.1 with
 | some a=>zwR G rc nm N a.1 a.2.1 q.2.1 e
 | none=>(zis q.1).bind fun x=>zwT rc nm N x.1 q.2.1 e
def zu5(G:Genv)(rc:Rec)(nm:Names)(N:List Str)(tg e:Expr):Option Fs:=match zis tg with
 | some x=>zwQ G rc nm N x.1 e
 | none=>match zrW tg with
  | some t=>zwO rc nm N t e
  | none=>match zr3 tg with
   | some a=>zwS G rc nm N a.1 a.2.1 e
   | none=>(zxL tg).bind fun q=>zuF G rc nm N q e
structure Mc where
 x:Str
 px:Pos
 m:Str
 ap:Pos
 a:Expr
 cp:Pos
def zmp(e:Expr):Option Mc:=(zrJ e).bind fun c=>if c.2.2.1.isEmpty then (zr3 c.1).bind fun t=>(zis t.1).bind fun x=>(ztq c.2.1).bind fun a=>some ⟨x.1,x.2,t.2.1,t.2.2,a,c.2.2.2⟩ else none
def zxO(rc:Rec)(nm:Names)(N:List Str)(c:Mc):Option Fs:=(zmp c.a).bind fun d=>if decide (d.m = "pop")&&(d.ap.endLine == d.cp.line) then (zco nm N c.x).bind fun i=>(zco nm N d.x).bind fun j=>(shE rc nm N d.a).bind fun f=>some (zeb i j f) else none
def zrq(G:Genv)(rc:Rec)(nm:Names)(N:List Str)(e:Expr):Option Fs:=match zmp e with
 | some c=>if decide (c.m = "append")&&(c.ap.endLine == c.cp.line) then (match zxO rc nm N c with | some f=>some f | none=>(zco nm N c.x).bind fun i=>(shE rc nm N c.a).bind fun f=>some (zh3 i f))
  else if zgF e then none else (shE rc nm N e).map znS
 | none=>if zgF e then none else (shE rc nm N e).map znS
def zvJ(rc:Rec)(nm:Names)(N:List Str)(own:Bool)(e:Expr):Option Fs:=match own with
 | true=>(match e with
  | .Name x _=>(zco nm N x).map zgm
  | e=>(rc nm N e).bind fun p=>if p.1 then some (zaS p.2) else none)
 | false=>(shE rc nm N e).map zaS
def rzG(G:Genv)(rc:Rec)(nm:Names)(N:List Str)(full:Bool)(a b:Option Expr):Option Fs:=if b.isNone then a.bind fun e=>(zrJ e).bind fun c=>(zis c.1).bind fun x=>if c.2.2.1.isEmpty&&!c.2.1.isEmpty&&full&&zct nm x.1&&G.exc x.1 then (shL rc nm N c.2.1).bind fun fs=>some (sRz x.1 fs) else none else none
def stG(G:Genv)(rc:Rec)(rs:Bool->List Stmt->Option Fs)(nm:Names)(N:List Str)(own full:Bool)(st:Stmt):Option Fs:=match st with
 | .Pass _=>some sNx
 | .Break _=>some sBk
 | .Assign ts e _=>(ztq ts).bind fun tg=>zu5 G rc nm N tg e
 | .Expr e _=>zrq G rc nm N e
 | .AugAssign tg op e _=>(zis tg).bind fun x=>(zu3 op).bind fun gg=>(tgI true nm N N.length x.1).bind fun i=>(shE rc nm N e).bind fun f=>some (zqn i gg f)
 | .Return o _=>(match o with | some e=>zvJ rc nm N own e | none=>if own then none else some znR)
 | .If c a b _=>if zbP c then (shE rc nm N c).bind fun f=>(rs full a).bind fun g=>(rs full b).bind fun h=>some (sIf f g h) else none
 | .For tg it body el _=>if full&&el.isEmpty then (zk7 G rc nm N tg it).bind fun i=>(tgG true nm N N.length tg).bind fun t=>(rs full body).bind fun b=>some (zhK t i b) else none
 | .While c body el _=>if full&&zbP c&&el.isEmpty then (shE rc nm N c).bind fun f=>(rs full body).bind fun b=>some (zh2 100000 f b) else none
 | .Raise a b _=>rzG G rc nm N full a b
 | _=>none
def zqA(n:Nat)(own:Bool)(nm:Names)(N:List Str):Stmt->List Nat
 | .Assign [_] e _=>zda n nm N e
 | .Expr (.Call (.Attribute _ _ _) args [] _) _=>args.flatMap (zda n nm N)
 | .Expr e _=>zda n nm N e
 | .Return (some (.Name x p)) _=>if own then [] else zda n nm N (.Name x p)
 | .Return (some e) _=>zda n nm N e
 | .If c _ _ _=>zda n nm N c
 | .For _ it _ _ _=>zda n nm N it
 | .While c _ _ _=>zda n nm N c
 | _=>[]
def blk(ds:Stmt->Option Fs):List Stmt->Option Fs
 | []=>some sNx
 | s::r=>(ds s).bind fun f=>(blk ds r).bind fun g=>some (zaf f g)
def zoT(G:Genv)(own:Bool):Nat->Bool->Names->List Str->Stmt->Option Fs
 | 0,_,_,_,_=>none
 | n+1,full,nm,N,st=>(stG G (zwC G n) (fun fl b=>blk (zoT G own n fl nm N) b) nm N own full st).map (sFz (zqA n own nm N st))
section
variable{cl:Cf}{G:Genv}{k:Nat}{rc:Rec}{X:Cx}{nm:Names}{N:List Str}{E:St->XK}{own full:Bool}
def Gd.sto(g:Gd cl G k X nm N E full):Sto' X nm true:=⟨fun _ x _=>g.fn x⟩
def zkK:∃b,swapsWith (.ListComp elt gs scope p) (some (.Name x px)) l env=pure b:=⟨_,rfl⟩
def znq(q:tS cl E own (zg6 t f) De σ H):zrY (tE cl E f) (tG cl n t) De σ H:=by
 obtain ⟨B,w,ρ,S,rfl,R,q⟩:=q;refine ⟨B,w,ρ,S,rfl,R,?_⟩;unfold zg6 at q
 cases hf:f ρ S with
 | bad=>rwa [hf] at q
 | exc c S1=>rw [hf] at q;exact fun w' R' F'=>q σ w' R' F'
 | ok d S1 =>
  rw [hf] at q;intro v w' R' F' h';dsimp only at q
  cases hp:t.put ρ d with
  | none=>rw [hp] at q;exact q.elim
  | some ρ'=>rw [hp] at q;exact ⟨B,w',ρ,S1,d,ρ',rfl,R',h',hp,fun σ' _ _ R2=>q σ' w' R2 F'⟩
def zoX(hs:zbO cl G k rc)(g:Gd cl G k X nm N E full)(hi:tgI true nm N N.length x=some i)(h:zle G rc nm N elt gg scope=some f) :
  PS X (.Assign [.Name x px] (.ListComp elt [gg] scope p) pos) (tS cl E own (zbg i true f)):=by
 obtain ⟨a1,a2,a3,a4,a5⟩:=zfy g.gx g.sto hi;obtain ⟨b,hb⟩:=zkK (elt:=elt) (gs:=[gg]) (scope:=scope) (p:=p) (px:=px) (x:=x) (l:=pos.line) (env:=X.env)
 cases b with
 | false=>exact zlH a2 a3 a4 (zm5 hs g.gx h) hb a5
 | true =>
  obtain ⟨it,t,c,el,rfl,eg,S,i1,i2,i3,i4,i5⟩:=zgR hs g.gx h;rw [eg] at hb ⊢;refine PS.imp (zn4 g.gx.calm S a2 a3 a4 i1 i3 i4 i5 hb a5 (zhj i2)) ?_;intro De σ H q;exact zpM (zuE q)
def zpb:swapsWithSole [.Subscript a i p] e l env=pure false:=by cases e<;>rfl
def zpd:swappedStores [.Subscript a i p] e env=pure none:=by cases e<;>rfl
def zsk:swapsWithSole [.Tuple es kk p] e l env=pure false:=by cases e<;>rfl
def zso(h:zrW e=none):swappedStores [.Tuple es kk p] e env=pure none:=by cases e<;>first | rfl | cases h
def zpc:swapsWith e (some (.Attribute o f p)) l env=pure false:=by cases e<;>rfl
def zrN(hs:zbO cl G k rc)(g:Gd cl G k X nm N E full)(h:zwQ G rc nm N x e=some f):PS X (.Assign [.Name x px] e pos) (tS cl E own f):=by
 unfold zwQ at h;obtain ⟨i,h1,h⟩:=zaa h
 cases hl:lcE e with
 | some c =>
  rw [hl] at h;obtain ⟨gg,h2,h⟩:=zaa h;obtain ⟨fe,h3,h⟩:=zaa h;cases h;rw [ztO hl,zmg h2];exact zoX hs g h1 h3
 | none =>
  rw [hl] at h;dsimp only at h;split at h
  ·cases h
  ·rename_i hc;obtain ⟨⟨o,fe⟩,h2,h⟩:=zaa h;cases h;obtain ⟨a1,a2,a3,a4,a5⟩:=zfy g.gx g.sto h1;obtain ⟨b1,b2,_,_⟩:=hs X nm N E g.gx _ o fe h2;have sw:=zg2 (t:=some (.Name x px)) (l:=pos.line) (env:=X.env) (by simpa using hc)
   cases o with
   | false=>exact zsx a2 a3 a4 b2 sw a5
   | true=>exact zlH a2 a3 a4 (b1 rfl) sw a5
def zrM(hs:zbO cl G k rc)(g:Gd cl G k X nm N E full)(h:zwO rc nm N t e=some f):PS X (.Assign [.Tuple t.1 t.2.1 t.2.2] e pos) (tS cl E own f):=by
 have tupCase:swappedStores [.Tuple t.1 t.2.1 t.2.2] e X.env=pure none->((tgG true nm N N.length (.Tuple t.1 t.2.1 t.2.2)).bind fun t=>(shE rc nm N e).bind fun f=>some (zg6 t f))=some f->PS X (.Assign [.Tuple t.1 t.2.1 t.2.2] e pos) (tS cl E own f):=by
  intro sw2 h;obtain ⟨t',h1,h⟩:=zaa h;obtain ⟨fe,h2,h⟩:=zaa h;cases h;exact PS.imp (zjU (zaO hs g.gx h2).1 (zpW g.gx g.sto h1) zsk sw2 rfl) fun _ _ _ q=>znq q
 unfold zwO at h
 cases hv:zrW e with
 | none =>
  rw [hv] at h;exact tupCase (zso hv) h
 | some v =>
  rw [hv] at h;dsimp only at h;split at h
  ·rename_i hce;have ev:=zls hv;unfold zyR at h
   cases h2:zrR rc nm N t.1 v.1 with
   | some f2 =>
    rw [h2] at h;cases h;unfold zrR at h2;obtain ⟨x,e1,h2⟩:=zaa h2;obtain ⟨c,e2,h2⟩:=zaa h2;obtain ⟨i,h3,h2⟩:=zaa h2;obtain ⟨j,h4,h2⟩:=zaa h2;obtain ⟨⟨o,fe⟩,h5,h2⟩:=zaa h2;dsimp only at h2;split at h2
    ·rename_i ho;cases h2;obtain ⟨_,a2,a3,a4,a5⟩:=zfy g.gx g.sto h3;obtain ⟨_,_,b3,b4,b5⟩:=zfy g.gx g.sto h4;obtain ⟨p1,p2,_,p4⟩:=hs X nm N E g.gx c.1 o fe h5;have hsw:=znc (vs:=v.1) (k:=t.2.1) (k2:=v.2.1) (p:=t.2.2) (p2:=v.2.2) g.sc hce;rw [ev];rw [ztQ e1,zuH e2] at hsw ⊢;exact zvT g.gx.calm a2 a3 b3 a4 b4 a5 b5 (p1 ho) (zar p4) hsw
    ·cases h2
   | none =>
    rw [h2] at h;dsimp only at h;refine tupCase ?_ h;rw [ev];exact znc g.sc hce
  ·cases h
def zrP(hs:zbO cl G k rc)(g:Gd cl G k X nm N E full)(h:zwS G rc nm N o fl e=some f):PS X (.Assign [.Attribute o fl ap] e pos) (tS cl E own f):=by
 unfold zwS at h;obtain ⟨x,h1,hz⟩:=zaa h;have e1:=zj3 h1;clear h h1;subst e1;split at hz
 ·rename_i hd;split at hz
  ·rename_i hf;rw [yac] at hf;obtain ⟨i,h1,hz⟩:=za3 hz;subst hz;obtain ⟨s1,s2,s3,s4⟩:=g.gx.slot h1;obtain ⟨p,rfl⟩:=zoR hd;exact zqa s1 s2 s3 s4 g.gx.same (g.gx.gok.fk _ _ hf.2) zpc
  ·cases hz
 ·split at hz
  ·cases hz
  ·rename_i hf;rw [Bool.not_eq_true,Bool.or_eq_false_iff,Bool.not_eq_false'] at hf;obtain ⟨fo,h2,hz⟩:=zaa hz;obtain ⟨fe,h3,hz⟩:=zaa hz;cases hz;exact zp9 g.gx.same (g.gx.gok.fk _ _ hf.2) (zaO hs g.gx h2).1 (zaO hs g.gx h3).1 zpc
def zrO(hs:zbO cl G k rc)(g:Gd cl G k X nm N E full)(h:zwR G rc nm N o fl ix e=some f):PS X (.Assign [.Subscript (.Attribute o fl ap) ix p3] e pos) (tS cl E own f):=by
 unfold zwR at h;split at h
 ·rename_i hc;rw [yac,yac,yac,yct] at hc;obtain ⟨x,h1,hz⟩:=zaa h;have e1:=zj3 h1;clear h h1;subst e1;obtain ⟨i,h1,hz⟩:=zaa hz;obtain ⟨fo,h2,hz⟩:=zaa hz;obtain ⟨fe,h3,hz⟩:=zaa hz;cases hz;obtain ⟨s1,s2,s3,s4⟩:=g.gx.slot h1;refine zp7 s1 s2 s3 s4 g.gx.u16 g.gx.same (g.gx.gok.fk _ _ hc.2) (zaO hs g.gx h2).1 ?_ (zaO hs g.gx h3).1 zpb zpd ?_
  ·cases o<;>first | rfl | cases hc.1.1.1
  ·intro _;rfl
 ·cases h
def zrQ(hs:zbO cl G k rc)(g:Gd cl G k X nm N E full)(h:zwT rc nm N x ix e=some f):PS X (.Assign [.Subscript (.Name x px) ix p3] e pos) (tS cl E own f):=by
 unfold zwT at h;split at h
 ·rename_i hx;rw [yac] at hx;obtain ⟨i,h1,h⟩:=zaa h;obtain ⟨fi,h2,h⟩:=zaa h;obtain ⟨fe,h3,h⟩:=zaa h;cases h;obtain ⟨s1,s2,s3,s4⟩:=g.gx.slot h1;refine zp6 g.gx.same s1 s2 s3 s4 (zaO hs g.gx h2).1 (zaO hs g.gx h3).1 zpb zpd ?_
  cases ix<;>first | (intro _;rfl) | cases hx.1
 ·cases h
def zuD(hs:zbO cl G k rc)(g:Gd cl G k X nm N E full)(h:zu5 G rc nm N tg e=some f):PS X (.Assign [tg] e pos) (tS cl E own f):=by
 unfold zu5 at h
 cases h1:zis tg with
 | some x=>rw [h1] at h;rw [zeK h1];exact zrN hs g h
 | none =>
  rw [h1] at h
  cases h2:zrW tg with
  | some t=>rw [h2] at h;rw [zls h2];exact zrM hs g h
  | none =>
   rw [h2] at h
   cases h3:zr3 tg with
   | some a=>rw [h3] at h;rw [zjx h3];exact zrP hs g h
   | none =>
    rw [h3] at h;obtain ⟨q,h4,h⟩:=zaa h;rw [zp2 h4];unfold zuF at h
    cases h5:zr3 q.1 with
    | some a=>rw [h5] at h;rw [zjx h5];exact zrO hs g h
    | none =>
     rw [h5] at h;obtain ⟨x,h6,h⟩:=zaa h;rw [zeK h6];exact zrQ hs g h
def zj6(h:zmp e=some c):e=.Call (.Attribute (.Name c.x c.px) c.m c.ap) [c.a] [] c.cp:=by
 unfold zmp at h;obtain ⟨c1,h1,h⟩:=zaa h;split at h
 ·rename_i hk;obtain ⟨t,h2,h⟩:=zaa h;obtain ⟨x,h3,h⟩:=zaa h;obtain ⟨a,h4,h⟩:=zaa h;cases h;rw [zkz h1,zjx h2,zeK h3,zmg h4,ybt.mp hk]
 ·cases h
def zrp(hs:zbO cl G k rc)(g:Gd cl G k X nm N E full)(h:zrq G rc nm N e=some f):PS X (.Expr e pos) (tS cl E own f):=by
 unfold zrq at h
 cases hc:zmp e with
 | some c =>
  obtain ⟨x,px,m,ap,a,cp⟩:=c;obtain rfl:=zj6 hc;rw [hc] at h;dsimp only at h;split at h
  ·rename_i hm;rw [yac] at hm;have em:=yar hm.1;subst em;split at h
   ·rename_i fp hp;cases h;unfold zxO at hp;obtain ⟨d,e1,hp⟩:=zaa hp;dsimp only at hp e1;split at hp
    ·rename_i hb;rw [yac] at hb;obtain ⟨i,h1,hp⟩:=zaa hp;obtain ⟨j,h2,hp⟩:=zaa hp;obtain ⟨fe,h3,hp⟩:=zaa hp;cases hp;obtain ⟨s1,s2,s3,s4⟩:=g.gx.slot h1;obtain ⟨t1,t2,t3,t4⟩:=g.gx.slot h2;obtain ⟨a1,_,a3⟩:=zaO hs g.gx h3;have ed:=zj6 e1;rw [yar hb.1] at ed;rw [ed];exact zqc s1 s2 s3 s4 t1 t2 t3 t4 a1 (zar a3) hm.2 hb.2
    ·cases hp
   obtain ⟨i,h1,h⟩:=zaa h;obtain ⟨fe,h2,h⟩:=zaa h;cases h;obtain ⟨s1,s2,s3,s4⟩:=g.gx.slot h1;obtain ⟨a1,_,a3⟩:=zaO hs g.gx h2;exact zsy s1 s2 s3 s4 a1 (zar a3) hm.2
  split at h
  ·cases h
  ·rename_i hc;obtain ⟨fe,h2,h⟩:=za3 h;subst h;exact zpe (zaO hs g.gx h2).1 (zg2 (by simpa using hc))
 | none =>
  rw [hc] at h;dsimp only at h;split at h
  ·cases h
  ·rename_i hc;obtain ⟨fe,h2,h⟩:=za3 h;subst h;exact zpe (zaO hs g.gx h2).1 (zg2 (by simpa using hc))
def zsT(hs:zbO cl G k rc)(g:Gd cl G k X nm N E full)(h:zvJ rc nm N own e=some f):PS X (.Return (some e) pos) (tS cl E own f):=by
 unfold zvJ at h;split at h
 ·split at h
  ·obtain ⟨i,h1,h⟩:=za3 h;subst h;obtain ⟨s1,s2,s3,s4⟩:=g.gx.slot h1;exact zp3 s1 s2 s3 s4
  ·obtain ⟨⟨o,fe⟩,h1,h⟩:=zaa h;dsimp only at h;split at h
   ·rename_i ho;cases h;exact zp4 ((hs X nm N E g.gx _ o fe h1).1 ho)
   ·cases h
 ·obtain ⟨fe,h2,h⟩:=za3 h;subst h;exact zss (zaO hs g.gx h2).1
def zvx(hs:zbO cl G k rc){rs:Bool->List Stmt->Option Fs}(hr:∀(fl:Bool) (X:Cx) (E:St->XK),Gd cl G k X nm N E fl->∀b f,rs fl b=some f->PSs X b (tS cl E own f))(g:Gd cl G k X nm N E full){st:Stmt}{f:Fs}(h:stG G rc rs nm N own full st=some f):PS X st (tS cl E own f):=by
 cases st with
 | Pass p=>cases h;exact zp8
 | Break p=>cases h;exact zsv
 | Assign ts e p =>
  obtain ⟨tg,h1,h⟩:=zaa (show ((ztq ts).bind fun tg=>zu5 G rc nm N tg e)=some f from h);obtain rfl:=zmg h1;exact zuD hs g h
 | Expr e p=>exact zrp hs g h
 | AugAssign tg op e p =>
  obtain ⟨x,h1,hz⟩:=zaa (show ((zis tg).bind fun x=>(zu3 op).bind fun gg=>(tgI true nm N N.length x.1).bind fun i=>(shE rc nm N e).bind fun f=>some (zqn i gg f))=some f from h);obtain ⟨gg,h2,hz⟩:=zaa hz;obtain ⟨i,h3,hz⟩:=zaa hz;obtain ⟨fe,h4,hz⟩:=zaa hz;cases hz;rw [zeK h1];obtain ⟨_,a2,a3,a4,a5⟩:=zfy g.gx g.sto h3;exact zsw h2 a2 a3 a4 (zaO hs g.gx h4).1 a5
 | Return o p =>
  cases o with
  | some e=>exact zsT hs g h
  | none =>
   have h':(if own then none else some znR)=some f:=h;split at h'
   ·cases h'
   ·rename_i ho;cases h'
    have:own=false:=by simpa using ho
    subst this;exact zp5
 | If c a b p =>
  have h':(if zbP c then (shE rc nm N c).bind fun f=>(rs full a).bind fun g=>(rs full b).bind fun h=>some (sIf f g h) else none)=some f:=h;split at h'
  ·rename_i ht;obtain ⟨fc,h1,h⟩:=zaa h';obtain ⟨fa,h2,h⟩:=zaa h;obtain ⟨fb,h3,h⟩:=zaa h;cases h;exact zvy ((zaO hs g.gx h1).2.1 ht) (hr full X E g a fa h2) (hr full X E g b fb h3)
  ·cases h'
 | For tg it body el p =>
  have h':(if full&&el.isEmpty then (zk7 G rc nm N tg it).bind fun i=>(tgG true nm N N.length tg).bind fun t=>(rs full body).bind fun b=>some (zhK t i b) else none)=some f:=h;split at h'
  ·rename_i hf;rw [yac] at hf;obtain rfl:=ybt.mp hf.2;obtain ⟨it,h1,h⟩:=zaa h';obtain ⟨t,h2,h⟩:=zaa h;obtain ⟨fb,h3,h⟩:=zaa h;cases h;obtain ⟨i1,i2⟩:=zmH hs g.gx (tg:=_) h1;exact zsu (g.own hf.1) g.gx.calm i1 (zpW g.gx g.sto h2) (hr full X E g _ fb h3) (zhj i2)
  ·cases h'
 | While c body el p =>
  have h':(if full&&zbP c&&el.isEmpty then (shE rc nm N c).bind fun f=>(rs full body).bind fun b=>some (zh2 100000 f b) else none)=some f:=h;split at h'
  ·rename_i hf;rw [yac,yac] at hf;obtain rfl:=ybt.mp hf.2;obtain ⟨fc,h1,h⟩:=zaa h';obtain ⟨fb,h3,h⟩:=zaa h;cases h;exact znK 100000 (g.own hf.1.1) ((zaO hs g.gx h1).2.1 hf.1.2) (hr full X E g _ fb h3)
  ·cases h'
 | Raise ea eb p =>
  have h':rzG G rc nm N full ea eb=some f:=h;unfold rzG at h';split at h'
  ·rename_i hb;obtain rfl:=Option.isNone_iff_eq_none.mp hb;obtain ⟨e0,e1,hz⟩:=zaa h';obtain ⟨c0,h1,hy⟩:=zaa hz;obtain ⟨⟨c,p⟩,h2,hx⟩:=zaa hy;have e2:=zkz h1;obtain ⟨fn,args,kws,cp⟩:=c0;have e3:fn=.Name c p:=zeK h2;clear h h' hz hy h1 h2;subst e1;subst e2;subst e3;dsimp only at hx ⊢;split at hx
   ·rename_i hf;simp only [yac] at hf;obtain ⟨⟨⟨⟨k0,a0⟩,f0⟩,g0⟩,x0⟩:=hf;obtain rfl:=ybt.mp k0
    cases args with
    | nil=>cases a0
    | cons e es =>
    obtain ⟨fs,h1,h⟩:=zaa hx;cases h;obtain ⟨g1,g2,_⟩:=g.gx.glob g0;obtain ⟨m,z⟩:=g.gx.gok.exc c x0;obtain ⟨a1,a2,_⟩:=zfB hs g.gx h1;rw [ybK,yac] at a2;refine PS.imp (zl4 (g.raises f0) g.gx.calm g1 m z a1 (zbN a2.1) (zbW a2.2) g2) ?_;rintro De σ H ⟨B,w,ρ,S,rfl,R,q⟩;refine ⟨B,w,ρ,S,rfl,R,?_⟩;unfold sRz at q
    cases hv:zan fs ρ S with
    | bad=>rwa [hv] at q
    | exc c S1=>rw [hv] at q;exact fun w' R' F'=>q σ w' R' F'
    | ok ds S1 =>
     rw [hv] at q;dsimp only at q
     cases hz:zbb ds.length with
     | false=>rw [hz,if_neg (by decide)] at q;exact q.elim
     | true =>
      rw [hz,if_pos rfl] at q;exact fun vs w' R' F' sh=>⟨by rw [sh.length];exact zbn hz,q σ w' R' F'⟩
   ·cases hx
  ·cases h'
 | _=>cases h
theorem zkA(hd:∀st f,ds st=some f->PS X st (tS cl E own f)):∀{b:List Stmt} {f:Fs},blk ds b=some f->PSs X b (tS cl E own f)
 | [],f,h=>by cases h;exact zst
 | s::r,f,h=>by
  unfold blk at h;obtain ⟨f1,h1,h⟩:=zaa h;obtain ⟨f2,h2,h⟩:=zaa h;cases h;exact zqb (hd s f1 h1) (zkA hd h2)
theorem zhy:∀(n:Nat) (fl:Bool) (X:Cx) (E:St->XK),Gd cl G k X nm N E fl->∀st f,zoT G own n fl nm N st=some f->PS X st (tS cl E own f)
 | 0,_,_,_,_,_,_,h=>by cases h
 | n+1,fl,X,E,g,st,f,h=>by
  unfold zoT at h;obtain ⟨f1,h1,h⟩:=za3 h;subst h;exact zvz _ (zvx (zpK n) (fun fl X E g b f hb=>zkA (fun st f hst=>zhy n fl X E g st f hst) hb) g h1)
end
noncomputable def zbh(nN:Nat)(own:Bool)(fs:Fs)(ds:List D)(S:Sto):Out D:=match fs (ds.map (fun d=>some (false,d))++List.replicate (nN-ds.length) none) S with
 | .rt d S'=>.ok d S'
 | .nx _ S'=>if own then .bad else .ok .non S'
 | .ex c _ S'=>.exc c S'
 | _=>.bad
def zaj(G:Genv)(own:Bool)(N:List Str)(st:Stmt):Option Fs:=blk (zoT G own 40 true (zab st).names N) (zbF st)
theorem zoL{P:Program}{wo:PySem.World}{K:PySem.W.Frag}{mg:Z6}{base:Heap}{cl:Cf}{G:Genv}{k:Nat}{x qual:Str}{st:Stmt}{f:Addr}{fd:FuncData}{N ps:List Str}{own:Bool}{fs:Fs}(F:Fun K x qual st f fd)(S:FnScope N ps (zab st))(hG:GOk cl G P wo K mg base k)
  (hk:K=cl.K) (hP:P=cl.P) (hW:wo=cl.wo) (hd:zaj G own N st=some fs):FnOk P wo K mg base (CXE P wo) (k+1) f fd ps (zhX cl ps.length own (zbh N.length own fs)):=by
 obtain ⟨oc,od,kV,doc,pm,an,cdv,ct,osl,rfl,lk,hcd⟩:=F.ex;refine zub lk hcd S (fun vs H Q E h=>h.1) fun A outer s H vs Q E hr hsp=>?_
 refine ⟨tS cl (fun _=>E) own fs,?_,?_⟩
 ·have g:Gd cl G k (zm3 (CXE P wo) P wo K mg base N qual (zab st) f cdv A outer s H E) (zab st).names N (fun _=>E) true :=
   ⟨⟨hG,hr,rfl,fun pins σ H1 s1 e s' I q=>zth pins σ H1 s1 e s' I q,rfl,hk,hP,hW,S.nd,fun x kd h=>⟨kd,h,.inl rfl⟩,fun x h=>h⟩,fun _=>rfl,S.kind,rfl,fun _=>PassesOwn.leaving,fun _ C pins σ H1 s1 e h' vs I mk q=>zlZ C pins σ H1 s1 e h' vs I mk q,rfl,rfl⟩
  exact zkA (fun st f hst=>zhy 40 true _ _ g st f hst) hd
 ·obtain ⟨hl,B,w,ds,S0,rfl,W,sh,q⟩:=hsp;have hdl:ds.length=vs.length:=sh.length.symm;refine ⟨B,w,ds.map (fun d=>some (false,d))++List.replicate (N.length-ds.length) none,S0,rfl,⟨W,?_,fun i o d hi=>?_⟩,?_⟩
  ·unfold L2.zfz;rw [yah,yah,yae,yae,yaC,yaC,hdl]
  ·by_cases hlt:i<ds.length
   ·rw [yax (by rw [yae];exact hlt),yal] at hi
    cases hdi:ds[i]? with
    | none=>rw [hdi] at hi;cases hi
    | some d' =>
     rw [hdi] at hi;cases hi;obtain ⟨v,e1,e2⟩:=sh.at hdi;refine ⟨v,?_,e2⟩;unfold L2.zfz;rw [yax (by rw [yae];omega),yal,e1];rfl
   ·rw [yap (by rw [yae];omega),ya7] at hi
    split at hi<;>cases hi
  ·unfold zbh at q
   cases hf:fs (ds.map (fun d=>some (false,d))++List.replicate (N.length-ds.length) none) S0 with
   | bad=>rwa [hf] at q
   | bk _ _=>rw [hf] at q;exact q.elim
   | ct _ _=>rw [hf] at q;exact q.elim
   | rt d S'=>rwa [hf] at q
   | ex c ρ' S'=>rw [hf] at q;exact fun σ' w' R' F'=>q w' R'.wd F'
   | nx ρ' S' =>
    rw [hf] at q;dsimp only at q
    cases own with
    | true=>exact q.elim
    | false=>exact fun σ' w' R' F'=>q .non w' R'.wd F' .non
structure FunD(K:PySem.W.Frag)(x qual:Str)(st:Stmt)(f:Addr)(fd:FuncData)(items:Array Value):Prop where
 ex:∃(oc:Value) (od:Option Addr) (T:Addr) (o:Obj) (n:Nat) (kV doc pm:Value) (an:Option Addr) (cdv ct:Value) (osl:Array (Option Value)),
  fd=PySem.W.fnOf x qual (zbZ st) (zbF st) (zab st) (.ref T) kV doc pm an cdv ct/\K.lookup f=some ⟨oc,od,.func fd,osl⟩/\PySem.W.codeIn K cdv qual=true/\K.lookup T=some o/\o.data=.seq items n
noncomputable def inC(j:Nat):Stmt->Stmt | .ClassDef _ _ _ b ..=>b.getD j (.Pass ⟨0,0,0,0⟩) | s=>s
def zua{P:Program}{wo:PySem.World}{K:PySem.W.Frag}{mg:Z6}{base:Heap}{cl:Cf}{G:Genv}{k:Nat}{x qual:Str}{st:Stmt}{f:Addr}{fd:FuncData}{N ps:List Str}{own:Bool}{fs:Fs}{items:Array Value}(F:FunD K x qual st f fd items)(S:FnScope N ps (zab st))(hG:GOk cl G P wo K mg base k)
  (hk:K=cl.K) (hP:P=cl.P) (hW:wo=cl.wo) (hd:zaj G own N st=some fs):FnOk P wo K mg base (CXE P wo) (k+1) f fd ps (zhX cl ps.length own (zbh N.length own fs)):=by
 obtain ⟨oc,od,T,o,n,kV,doc,pm,an,cdv,ct,osl,rfl,lk,hcd,_⟩:=F.ex;refine zub lk hcd S (fun vs H Q E h=>h.1) fun A outer s H vs Q E hr hsp=>?_
 refine ⟨tS cl (fun _=>E) own fs,?_,?_⟩
 ·have g:Gd cl G k (zm3 (CXE P wo) P wo K mg base N qual (zab st) f cdv A outer s H E) (zab st).names N (fun _=>E) true :=
   ⟨⟨hG,hr,rfl,fun pins σ H1 s1 e s' I q=>zth pins σ H1 s1 e s' I q,rfl,hk,hP,hW,S.nd,fun x kd h=>⟨kd,h,.inl rfl⟩,fun x h=>h⟩,fun _=>rfl,S.kind,rfl,fun _=>PassesOwn.leaving,fun _ C pins σ H1 s1 e h' vs I mk q=>zlZ C pins σ H1 s1 e h' vs I mk q,rfl,rfl⟩
  exact zkA (fun st f hst=>zhy 40 true _ _ g st f hst) hd
 ·obtain ⟨hl,B,w,ds,S0,rfl,W,sh,q⟩:=hsp;have hdl:ds.length=vs.length:=sh.length.symm;refine ⟨B,w,ds.map (fun d=>some (false,d))++List.replicate (N.length-ds.length) none,S0,rfl,⟨W,?_,fun i o d hi=>?_⟩,?_⟩
  ·unfold L2.zfz;rw [yah,yah,yae,yae,yaC,yaC,hdl]
  ·by_cases hlt:i<ds.length
   ·rw [yax (by rw [yae];exact hlt),yal] at hi
    cases hdi:ds[i]? with
    | none=>rw [hdi] at hi;cases hi
    | some d' =>
     rw [hdi] at hi;cases hi;obtain ⟨v,e1,e2⟩:=sh.at hdi;refine ⟨v,?_,e2⟩;unfold L2.zfz;rw [yax (by rw [yae];omega),yal,e1];rfl
   ·rw [yap (by rw [yae];omega),ya7] at hi
    split at hi<;>cases hi
  ·unfold zbh at q
   cases hf:fs (ds.map (fun d=>some (false,d))++List.replicate (N.length-ds.length) none) S0 with
   | bad=>rwa [hf] at q
   | bk _ _=>rw [hf] at q;exact q.elim
   | ct _ _=>rw [hf] at q;exact q.elim
   | rt d S'=>rwa [hf] at q
   | ex c ρ' S'=>rw [hf] at q;exact fun σ' w' R' F'=>q w' R'.wd F'
   | nx ρ' S' =>
    rw [hf] at q;dsimp only at q
    cases own with
    | true=>exact q.elim
    | false=>exact fun σ' w' R' F'=>q .non w' R'.wd F' .non
structure Tab where
 con:List (Str×D)
 blt:List Str
 exc:List Str
 und:List (Str×Str)
 rz:List Str
 fk:List (Str×Str)
 df:List Str
 ds:List Str
noncomputable def zwm(rz exc:List Str)(c C:Str):Option Bool:=if rz.contains c then (if C = "ValueError" then some true else if exc.contains C then some (decide (C=c)||decide (C = "FloorError")) else none) else none
noncomputable def zxG(l:List (Str×Str))(c C:Str):Bool:=l.contains (c,C)
structure Fn3 where
 cur:Str
 fs:List (Str×FnI)
 ms:List (Str×Str×FnI)
 ks:List (Str×List D×FnI)
def Gn(T:Tab)(F:Fn3):Genv:=⟨fun x=>T.con.lookup x,fun x=>F.fs.lookup x,fun x=>T.blt.contains x,fun x=>T.exc.contains x,zxG T.und,zwm T.rz T.exc,⟨F.cur,zxG T.fk,fun f=>T.df.contains f,fun m=>F.ms.lookup m,fun c=>F.ks.lookup c⟩,fun x=>T.ds.contains x⟩
noncomputable def Fn3.fn(F:Fn3)(x:Str)(fi:FnI):Fn3:=⟨F.cur,(x,fi)::F.fs,F.ms,F.ks⟩
noncomputable def Fn3.mt(F:Fn3)(m c:Str)(fi:FnI):Fn3:=⟨F.cur,F.fs,(m,c,fi)::F.ms,F.ks⟩
noncomputable def Fn3.cls(F:Fn3)(c:Str)(dds:List D)(fi:FnI):Fn3:=⟨F.cur,F.fs,F.ms,(c,dds,fi)::F.ks⟩
noncomputable def Fn3.at(F:Fn3)(c:Str):Fn3:=⟨c,F.fs,F.ms,F.ks⟩
section
variable{cl:Cf}{T:Tab}{P:Program}{wo:PySem.World}{K:PySem.W.Frag}{mg:Z6}{base:Heap}{k:Nat}{fs:Fn3}
def zcG{α:Type}{a:α}{l:List (Str×α)}{b:α}(h:((x,a)::l).lookup y=some b):(y=x/\b=a)\/l.lookup y=some b:=by
 rw [yaE] at h
 cases e:y == x with
 | true=>rw [e] at h;cases h;exact .inl ⟨eq_of_beq e,rfl⟩
 | false=>rw [e] at h;exact .inr h
def zgN{α:Type}{p:α->Prop}:∀x∈([]:List α),p x:=fun _ h=>nomatch h
def zay{α:Type}{p:α->Prop}{a:α}{l:List α}(h:p a)(t:∀x∈l,p x):∀x∈a::l,p x:=fun x hx=>(yaA.mp hx).elim (fun e=>e ▸ h) (t x)
theorem ziv{α:Type}{a:α}:∀{l:List (Str×α)},l.lookup x=some a->(x,a)∈l
 | [],h=>by cases h
 | (y,b)::l,h=>by
  rcases zcG h with ⟨rfl,rfl⟩ | h
  ·exact yaw
  ·exact yao _ (ziv h)
noncomputable def zwV(K:PySem.W.Frag)(cl:Cf)(exc:List Str)(c:Str):Prop:=PySem.W.ExcCls K (cl c)/\PySem.W.kitOne K (.ref (cl c)) (.type "ValueError")=some true/\∀C∈exc,PySem.W.kitOne K (.ref (cl c)) (.ref (cl C))=some (decide (C=c)||decide (C = "FloorError"))
def zAs(hc:∀p∈T.con,∃v u,mg p.1=some u/\zbM v u/\∀w,Shd cl w v p.2)(hb:∀x∈T.blt,mg x=none)(he:∀c∈T.exc,mg c=some (.ref (cl c))/\PySem.W.excIn K (cl c) bmV "ValueError.__new__" = true)(hu:∀p∈T.und,L2.zrU K (cl p.1) (cl p.2))(hx:∀c∈T.rz,zwV K cl T.exc c)(hfk:∀p∈T.fk,Cls cl.K (cl p.1)/\zd9 cl.K (cl p.1) p.2):GOk cl (Gn T ⟨"",[],[],[]⟩) P wo K mg base 0 where
 fk:=fun c f h=>hfk (c,f) (by simpa using (show T.fk.contains (c,f)=true from h))
 mt:=fun m c fi h=>by cases h
 mks:=fun c dds fi h=>by cases h
 con:=fun x d h=>hc (x,d) (ziv h)
 fn:=fun x fi h=>by cases h
 blt:=fun x h=>hb x (by simpa using (show T.blt.contains x=true from h))
 exc:=fun c h=>he c (by simpa using (show T.exc.contains c=true from h))
 und:=fun c C h=>hu (c,C) (by simpa using (show T.und.contains (c,C)=true from h))
 isx:=fun c C b h=>by
  have h':zwm T.rz T.exc c C=some b:=h;unfold zwm at h';split at h'
  ·rename_i hc;obtain ⟨x1,x2,x3⟩:=hx c (by simpa using hc);refine ⟨x1,?_⟩;unfold zyP;split at h'
   ·rename_i hC;cases h';rw [if_pos hC];exact x2
   ·rename_i hC;rw [if_neg hC];split at h'
    ·rename_i hm;cases h';exact x3 C (by simpa using hm)
    ·cases h'
  ·cases h'
def GOk.add(g:GOk cl (Gn T fs) P wo K mg base k)(m:mg x=some (.ref f))(kp:PySem.W.keepIn K (.ref f)=true)(b:zcA K fd ps [])(F:FnOk P wo K mg base (CXE P wo) (k+1) f fd ps (zhX cl fi.ar fi.own fi.run)) :
  GOk cl (Gn T (fs.fn x fi)) P wo K mg base (k+1) where
 con:=g.con
 fn:=fun y fj h=>by
  rcases zcG h with ⟨rfl,rfl⟩ | h
  ·exact ⟨f,fd,ps,m,kp,b,F⟩
  ·obtain ⟨f',fd',ps',h1,h2,h3,h4⟩:=g.fn y fj h;exact ⟨f',fd',ps',h1,h2,h3,h4.mono (yb5 _)⟩
 blt:=g.blt
 exc:=g.exc
 und:=g.und
 isx:=g.isx
 fk:=g.fk
 mt:=fun m c fi h=>by
  obtain ⟨f',fd',ps',h1,h2,h3,h4⟩:=g.mt m c fi h;exact ⟨f',fd',ps',h1,h2,h3,h4.mono (yb5 _)⟩
 mks:=fun c dds fi h=>by
  obtain ⟨f',fd',ps',dvs,ds,k',hk,z⟩:=g.mks c dds fi h;exact ⟨f',fd',ps',dvs,ds,k',Nat.le_succ_of_le hk,z⟩
theorem GOk.at(g:GOk cl (Gn T fs) P wo K mg base k)(c:Str):GOk cl (Gn T (fs.at c)) P wo K mg base k:=⟨g.con,g.fn,g.blt,g.exc,g.und,g.isx,g.fk,g.mt,g.mks⟩
def GOk.up(g:GOk cl (Gn T fs) P wo K mg base k)(hk:k<=k'):GOk cl (Gn T fs) P wo K mg base k' where
 con:=g.con
 fn:=fun y fj h=>by
  obtain ⟨f',fd',ps',h1,h2,h3,h4⟩:=g.fn y fj h;exact ⟨f',fd',ps',h1,h2,h3,h4.mono hk⟩
 blt:=g.blt
 exc:=g.exc
 und:=g.und
 isx:=g.isx
 fk:=g.fk
 mt:=fun m c fi h=>by
  obtain ⟨f',fd',ps',h1,h2,h3,h4⟩:=g.mt m c fi h;exact ⟨f',fd',ps',h1,h2,h3,h4.mono hk⟩
 mks:=fun c dds fi h=>by
  obtain ⟨f',fd',ps',dvs,ds,j,hj,z⟩:=g.mks c dds fi h;exact ⟨f',fd',ps',dvs,ds,j,yak hj hk,z⟩
def GOk.addM(g:GOk cl (Gn T fs) P wo K mg base k)(cc:Cls K (cl c))(hm:Meth K (cl c) m f)(b:zcA K fd ps [])(F:FnOk P wo K mg base (CXE P wo) k f fd ps (zhX cl fi.ar fi.own fi.run)) :
  GOk cl (Gn T (fs.mt m c fi)) P wo K mg base k where
 con:=g.con
 fn:=g.fn
 blt:=g.blt
 exc:=g.exc
 und:=g.und
 isx:=g.isx
 fk:=g.fk
 mt:=fun m' c' fi' h=>by
  rcases zcG h with ⟨rfl,e⟩ | h
  ·cases e;exact ⟨f,fd,ps,cc,hm,b,F⟩
  ·exact g.mt m' c' fi' h
 mks:=g.mks
def GOk.addK(g:GOk cl (Gn T fs) P wo K mg base k)(hk:k'+1<=k)(hm:mg c=some (.ref (cl c)))(M:Mk K (cl c) f)(b0:zcA K fd ps [])(bD:zcA K fd ps ds)(vd:Vals dvs ds)(sd:∀w,Shds cl w dvs dds)(F:FnOk P wo K mg base (CXE P wo) k' f fd ps (zhX cl fi.ar false fi.run)) :
  GOk cl (Gn T (fs.cls c dds fi)) P wo K mg base k where
 con:=g.con
 fn:=g.fn
 blt:=g.blt
 exc:=g.exc
 und:=g.und
 isx:=g.isx
 fk:=g.fk
 mt:=g.mt
 mks:=fun c' dds' fi' h=>by
  rcases zcG h with ⟨rfl,e⟩ | h
  ·cases e;exact ⟨f,fd,ps,dvs,ds,k',hk,hm,M,b0,bD,vd,sd,F⟩
  ·exact g.mks c' dds' fi' h
noncomputable def znY(nN:Nat)(own:Bool)(body:(List D->Sto->Out D)->Fs):Nat->List D->Sto->Out D
 | 0=>fun _ _=>.bad
 | n+1=>zbh nN own (body (znY nN own body n))
def zpf(h:zhX cl n own (fun _ _=>.bad) vs H Q E):False:=by
 obtain ⟨_,B,w,ds,S,_,_,_,q⟩:=h;exact q
theorem GOk.addR{m c qual:Str}{st:Stmt}{f:Addr}{fd:FuncData}{N ps:List Str}{own:Bool}{body:(List D->Sto->Out D)->Fs}(g:GOk cl (Gn T fs) P wo K mg base k)(U:Fun K m qual st f fd)(S:FnScope N ps (zab st))(hK:K=cl.K)(hP:P=cl.P)(hW:wo=cl.wo)(cc:Cls K (cl c))(hm:Meth K (cl c) m f)(b:zcA K fd ps [])
  (hd:∀r,zaj (Gn T ((fs.mt m c ⟨ps.length,own,r⟩).at c)) own N st=some (body r)):∀n,GOk cl (Gn T (fs.mt m c ⟨ps.length,own,znY N.length own body n⟩)) P wo K mg base (k+n)
 | 0=>g.addM cc hm b ⟨fun vs H Q E h=>(zpf h).elim,fun A outer s H args us vs Q E hr he hb hv h=>(zpf h).elim⟩
 | n+1=>(g.up (Nat.le_add_right k (n+1))).addM cc hm b (zoL U S ((g.addR U S hK hP hW cc hm b hd n).at c) hK hP hW (hd _))
end
noncomputable def znL(K:PySem.W.Frag):Sp:=fun vs H Q _=>∃(a:Addr) (ns:List Int),vs=[.ref a]/\ns.length<=63/\zu6 H/\SqL K H a (ns.map V.int)/\∀H',Q (.bl true) H'
def ztP{cl:Cf}{run:List D->Sto->Out D}(hr:∀l:List Int,l.length<=63->∃S,run [.scr l] []=.ok (.bl true) S):∀vs H Q E,znL cl.K vs H Q E->zhX cl 1 false run vs H Q E:=by
 rintro vs H Q E ⟨a,ns,rfl,hl,hO,hS,q⟩;refine ⟨rfl,⟨fun _=>none,fun _=>none⟩,⟨H,fun _=>none,[]⟩,[.scr ns],[],rfl,⟨(fun a o h=>by cases h),(fun a r h=>by cases h),rfl,(fun n ob h=>by simp at h)⟩,.cons ?_ .nil,?_⟩
 ·rcases hS with (hS | ⟨o,hS⟩) | hS
  ·rcases hO a with z | ⟨o,xs,z⟩
   ·rw [hS] at z;cases z
   ·rw [hS] at z;cases z
  ·exact .scr hS rfl
  ·exact .scrK fun H=>.inr hS
 ·obtain ⟨S',e⟩:=hr ns hl;rw [e];intro v w' _ _ r;have r':Shd cl w' v (.bl true):=r;cases r';exact q _
structure FnT(K:PySem.W.Frag)(x q:Str)(st:Stmt)(f:Addr):Prop where
 ex:∃(oc:Value) (od:Option Addr) (kV dc pm:Value) (an:Option Addr) (cd ct:Value) (sl:Array (Option Value)),K.lookup f=some ⟨oc,od,.func (PySem.W.fnOf x q (zbZ st) (zbF st) (zab st) .none kV dc pm an cd ct),sl⟩/\PySem.W.codeIn K cd q=true/\PySem.W.keepIn K (.ref f)=true/\PySem.W.isFn K (.ref f)=true
structure GFn(K:PySem.W.Frag)(x:Str)(st:Stmt):Prop where
 ex:∃f,PySem.W.nsIn K mainGlobals x=some (some (.ref f))/\FnT K x x st f
structure MFn(K:PySem.W.Frag)(C:Addr)(m q:Str)(st:Stmt):Prop where
 ex:∃f,PySem.W.findIn K (.ref C) m=some (some (.ref f))/\FnT K m q st f
noncomputable def BB(x q:Str)(st:Stmt)(ps:List Str):Prop:=∀(kV doc pm:Value) (an:Option Addr) (cdv ct:Value) (us:List Value),us.length=ps.length->bindArgs (PySem.W.fnOf x q (zbZ st) (zbF st) (zab st) .none kV doc pm an cdv ct) ⟨us,[]⟩=pure (ps.zip us)
def bb0{p:List Value->Prop}(h:p []):∀us:List Value,us.length=0->p us:=fun us e=>by rw [ybe e];exact h
def bbS{n:Nat}{p:List Value->Prop}(h:∀a:Value,∀us:List Value,us.length=n->p (a::us)):∀us:List Value,us.length=n+1->p us:=fun us e=>by
 cases us with
 | nil=>cases e
 | cons a us=>exact h a us (Nat.succ.inj e)
def bb1{p:List Value->Prop}(h:∀a0:Value,p [a0]):∀us:List Value,us.length=1->p us:=bbS fun a0=>bb0 (h a0)
def bb2{p:List Value->Prop}(h:∀a0 a1:Value,p [a0,a1]):∀us:List Value,us.length=2->p us:=bbS fun a0=>bbS fun a1=>bb0 (h a0 a1)
def bb3{p:List Value->Prop}(h:∀a0 a1 a2:Value,p [a0,a1,a2]):∀us:List Value,us.length=3->p us:=bbS fun a0=>bbS fun a1=>bbS fun a2=>bb0 (h a0 a1 a2)
def bb4{p:List Value->Prop}(h:∀a0 a1 a2 a3:Value,p [a0,a1,a2,a3]):∀us:List Value,us.length=4->p us:=bbS fun a0=>bbS fun a1=>bbS fun a2=>bbS fun a3=>bb0 (h a0 a1 a2 a3)
def bb5{p:List Value->Prop}(h:∀a0 a1 a2 a3 a4:Value,p [a0,a1,a2,a3,a4]):∀us:List Value,us.length=5->p us:=bbS fun a0=>bbS fun a1=>bbS fun a2=>bbS fun a3=>bbS fun a4=>bb0 (h a0 a1 a2 a3 a4)
def bb6{p:List Value->Prop}(h:∀a0 a1 a2 a3 a4 a5:Value,p [a0,a1,a2,a3,a4,a5]):∀us:List Value,us.length=6->p us:=bbS fun a0=>bbS fun a1=>bbS fun a2=>bbS fun a3=>bbS fun a4=>bbS fun a5=>bb0 (h a0 a1 a2 a3 a4 a5)
section
variable{cl:Cf}{T:Tab}{P:Program}{wo:PySem.World}{K:PySem.W.Frag}{mg:Z6}{base:Heap}{k:Nat}{fs:Fn3}
def FnT.un{x q:Str}{st:Stmt}{f:Addr}{ps:List Str}(p:FnT K x q st f)(b:BB x q st ps):∃fd,Fun K x q st f fd/\zcA K fd ps []/\PySem.W.keepIn K (.ref f)=true/\PySem.W.isFn K (.ref f)=true:=by
 obtain ⟨oc,od,kV,dc,pm,an,cd,ct,sl,l,c,kp,i⟩:=p.ex;have U:=zpE (st:=st) l c kp;exact ⟨_,U,U.binds b,kp,i⟩
def GOk.addG{x:Str}{st:Stmt}{N ps:List Str}{own:Bool}{f_:Fs}{h:Heap}(g:GOk cl (Gn T fs) P wo K mg base k)(X:K.In h)(G:h.Ns mainGlobals mg)(p:GFn K x st)(S:FnScope N ps (zab st))(hK:K=cl.K)(hP:P=cl.P)(hW:wo=cl.wo)(b:BB x x st ps)(hd:zaj (Gn T fs) own N st=some f_) :
  GOk cl (Gn T (fs.fn x ⟨ps.length,own,zbh N.length own f_⟩)) P wo K mg base (k+1):=by
 obtain ⟨f,a,p⟩:=p.ex;obtain ⟨fd,U,B,kp,_⟩:=p.un b;exact GOk.add g (ybp X G a) kp B (zoL U S g hK hP hW hd)
def GOk.addMG{m c q:Str}{st:Stmt}{N ps:List Str}{own:Bool}{f_:Fs}(g:GOk cl (Gn T fs) P wo K mg base k)(cc:Cls K (cl c))(p:MFn K (cl c) m q st)(S:FnScope N ps (zab st))(hK:K=cl.K)(hP:P=cl.P)(hW:wo=cl.wo)(b:BB m q st ps)(hd:zaj (Gn T (fs.at c)) own N st=some f_) :
  GOk cl (Gn T (fs.mt m c ⟨ps.length,own,zbh N.length own f_⟩)) P wo K mg base (k+1):=by
 obtain ⟨f,a,p⟩:=p.ex;obtain ⟨fd,U,B,kp,i⟩:=p.un b;exact GOk.addM (g.up (yb5 _)) cc ⟨a,i,kp⟩ B (zoL U S (g.at c) hK hP hW hd)
def GOk.addRG{m c q:Str}{st:Stmt}{N ps:List Str}{own:Bool}{body:(List D->Sto->Out D)->Fs}(g:GOk cl (Gn T fs) P wo K mg base k)(cc:Cls K (cl c))(p:MFn K (cl c) m q st)(S:FnScope N ps (zab st))(hK:K=cl.K)(hP:P=cl.P)(hW:wo=cl.wo)(b:BB m q st ps)
  (hd:∀r,zaj (Gn T ((fs.mt m c ⟨ps.length,own,r⟩).at c)) own N st=some (body r)) (n:Nat):GOk cl (Gn T (fs.mt m c ⟨ps.length,own,znY N.length own body n⟩)) P wo K mg base (k+n):=by
 obtain ⟨f,a,p⟩:=p.ex;obtain ⟨fd,U,B,kp,i⟩:=p.un b;exact GOk.addR g U S hK hP hW cc ⟨a,i,kp⟩ B hd n
end
open PySem
open L2 hiding D
noncomputable def zcf:Fs :=
  (zaf (sFz [] (zaS (zhL (eUn (zfk "tuple") (zai 0)) (zc6 leD leD (zai 1) (zaq zcT [(zai 0)]) (zai 2)))))
  sNx)
noncomputable def zaz:List S2.D->Sto->Out S2.D:=zbh 3 false zcf
noncomputable def zgb:Fs :=
  (zaf (sFz [] (zbg 1 false (eIf (zah gtD (zaq zcT [(zai 0)]) (zag (.int 0))) (zaq zcT [(zah ixD (zai 0) (zag (.int 0)))]) (zag (.int 0)))))
  (zaf (sFz [1] (zaS (zc5 [(zaq zcT [(zai 0)]),(zac 1)])))
  sNx))
noncomputable def zbS:List S2.D->Sto->Out S2.D:=zbh 2 false zgb
noncomputable def zch:Fs :=
  (zaf (sFz [3,4] (zh3 2 (zc5 [(zac 3),(zac 4)]))) sNx)
noncomputable def zdj:Fs :=
  (zaf (sFz [] (zhK (.one 4) (zd4 (zah ixD (zai 1) (zag (.int 1)))) zch)) sNx)
noncomputable def zek:Fs :=
  (zaf (sFz [0] (zbg 1 false (eFn zbS [(zac 0)])))
  (zaf (sFz [] (zbg 2 true (ze9 [])))
  (zaf (sFz [] (zhK (.one 3) (zd4 (zah ixD (zai 1) (zag (.int 0)))) zdj))
  (zaf (sFz [] (zgm 2))
  sNx))))
noncomputable def zaC:List S2.D->Sto->Out S2.D:=zbh 5 true zek
noncomputable def zdf:Fs :=
  (zaf (sFz [1] (zaS (eFn zaz [(zac 1),(zaq zcT [(zai 0)]),(zaq zcT [(zai 0)])])))
  sNx)
noncomputable def zbU:List S2.D->Sto->Out S2.D:=zbh 2 false zdf
noncomputable def zeO:Fs :=
  (zaf (sFz [1] (sIf (eUn zd1 (eFn zaz [(zac 1),(zaq zcT [(zai 0)]),(zaq zcT [(zai 0)])])) (zaf (sFz [] (zaS (zag (.bl false)))) sNx) sNx))
  (zaf (sFz [0,1] (zaS (zaq znA [(zb1 2 (.tup [0,1]) (zr0 (zac 0) (zac 1)) zdq (eFn zbU [(zac 0),(zac 1)]) [])])))
  sNx))
noncomputable def zcY:List S2.D->Sto->Out S2.D:=zbh 2 false zeO
noncomputable def zel:Fs :=
  (zaf (sFz [] (zaS (zah ixD (zah ixD (zai 0) (zah ixD (zai 1) (zag (.int 0)))) (zah ixD (zai 1) (zag (.int 1))))))
  sNx)
noncomputable def zam:List S2.D->Sto->Out S2.D:=zbh 2 false zel
noncomputable def zdd:Fs :=
  (zaf (sFz [0,0] (zaS (zb1 1 (.one 0) (zaB (eFn zaC [(zac 0)])) (zah zk1 (eFn zam [(zac 1),(zac 0)]) (zag .non)) (zac 0) [0])))
  sNx)
noncomputable def zcd:List S2.D->Sto->Out S2.D:=zbh 1 true zdd
noncomputable def zcO:Fs :=
  (zaf (sFz [1,1,0] (zaS (zaq znA [(zb1 1 (.one 0) (zaB (eFn zcd [(zac 1)])) zdq (zah eqD (eFn zam [(zac 2),(zac 0)]) (eFn zam [(zac 1),(zac 0)])) [1,0])])))
  sNx)
noncomputable def zbw:List S2.D->Sto->Out S2.D:=zbh 2 false zcO
noncomputable def zga:Fs :=
  (zaf (sFz [] (zaS (eSl (zai 0) (some (zaq zrZ [(zai 1),(zag (.int 0))])) (some (zaq zrZ [(zah zcn (zai 1) (zai 2)),(zag (.int 0))])))))
  sNx)
noncomputable def zcW:List S2.D->Sto->Out S2.D:=zbh 3 false zga
noncomputable def zmY:Fs :=
  (zaf (sFz [0,1,3,4,2] (zaS (zaq zbI [(zb1 1 (.one 0) (zaB (eFn zcW [(zac 0),(zac 1),(zac 3)])) zdq (eFn zcW [(zac 0),(zac 2),(zac 1)]) [4,2])])))
  sNx)
noncomputable def zjT:List S2.D->Sto->Out S2.D:=zbh 5 false zmY
noncomputable def zde:Fs :=
  (zaf (sFz [1] (zbg 3 false (eFn zbS [(zac 1)])))
  (zaf (sFz [0] (zbg 4 false (eFn zjT [(zac 0),(zah ixD (zai 2) (zag (.int 0))),(zah ixD (zai 2) (zag (.int 1))),(zah ixD (zai 3) (zag (.int 0))),(zah ixD (zai 3) (zag (.int 1)))])))
  (zaf (sFz [1,4,4,1] (zaS (zhL (eFn zcY [(zac 1),(zac 4)]) (eFn zbw [(zac 4),(zac 1)]))))
  sNx)))
noncomputable def zb2:List S2.D->Sto->Out S2.D:=zbh 5 false zde
noncomputable def zf8:Fs :=
  (zaf (sFz [0,0,1] (zaS (zb1 1 (.one 0) (zaB (eFn zaC [(zac 0)])) (eFn zb2 [(zac 1),(zac 2),(zac 0)]) (zac 0) [0,1])))
  sNx)
noncomputable def zeA:List S2.D->Sto->Out S2.D:=zbh 2 true zf8
noncomputable def zcw:Fs :=
  (zaf (sFz [] (sIf (zah ltD (zai 1) (zaq zcT [(zai 0)])) (zaf (sFz [] (zaS (zah ixD (zai 0) (zai 1)))) sNx) sNx))
  (zaf (sFz [] (sIf (zah eqD (zai 0) (ze9 [])) (zaf (sFz [] (zaS (zag (.int 0)))) sNx) sNx))
  (zaf (sFz [] (zaS (zah zcn (zah zgC (zah ixD (zai 0) (zah znx (zai 1) (zaq zcT [(zai 0)]))) (zag (.int 31))) (zai 1))))
  sNx)))
noncomputable def zb3:List S2.D->Sto->Out S2.D:=zbh 2 false zcw
noncomputable def zep:Fs :=
  (zaf (sFz [0,1] (zbg 3 false (zah znx (zah zgC (zah zcn (eFn zb3 [(zac 0),(zac 1)]) (zah zgC (zag (.int 6151)) (zah zcn (zai 1) (zag (.int 1))))) (zag (.int 40692))) (zag (.int 2147483399)))))
  (zaf (sFz [] (zaS (zah znx (zah znx (zah zcn (zah zgC (zai 3) (zai 3)) (zah zum (zai 3) (zag (.int 31)))) (zag (.int 2147483629))) (zai 2))))
  sNx))
noncomputable def zas:List S2.D->Sto->Out S2.D:=zbh 4 false zep
noncomputable def zbA:Fs :=
  (zaf (sFz [1,3,5,0] (zbg 6 false (zaq zbI [(zb1 1 (.one 0) (zd4 (zag (.int 4))) zdq (eFn zas [(zac 4),(zah zcn (zah zcn (zah zcn (zai 1) (zah zgC (zag (.int 4)) (zai 3))) (zag (.int 2))) (zai 0)),(zac 2)]) [1,3,5,0])]))) (zaf (sFz [0] (sIf (zah eqD (eFn zas [(zac 0),(zah zcn (zah zcn (zai 1) (zag (.int 60))) (zai 5)),(zag (.int 3))]) (zag (.int 0))) (zaf (sFz [] (zbg 6 false (zc5 [(zah ixD (zai 6) (zag (.int 0))),(zah ixD (zai 6) (zag (.int 1))),(zah ixD (zai 6) (zag (.int 0))),(zah ixD (zai 6) (zag (.int 1)))]))) sNx) sNx)) (zaf (sFz [] (sIf (zah zll (zai 6) (zai 4)) (zaf (sFz [6] (zh3 4 (zac 6))) sNx) sNx)) sNx)))
noncomputable def zdE:Fs :=
  (zaf (sFz [0,1] (zbg 3 false (zah zcn (zag (.int 2)) (eFn zas [(zac 0),(zac 1),(zag (.int 2))]))))
  (zaf (sFz [] (zbg 4 true (ze9 [])))
  (zaf (sFz [0,2] (zhK (.one 5) (zd4 (zah zcn (zag (.int 1)) (eFn zas [(zac 0),(zah zcn (zai 1) (zag (.int 1))),(zac 2)]))) zbA))
  (zaf (sFz [] (zaS (zaq zbI [(zai 4)])))
  sNx))))
noncomputable def zcB:List S2.D->Sto->Out S2.D:=zbh 7 false zdE
noncomputable def zbB:Fs :=
  (zaf (sFz [0] (zbg 10 false (eFn zas [(zac 0),(zah zcn (zah zcn (zai 1) (zah zgC (zag (.int 7)) (zai 7))) (zai 9)),(zah zgC (zaq zcT [(zai 2)]) (zai 5))]))) (zaf (sFz [10] (zh3 8 (eIf (zah ltD (zai 10) (zaq zcT [(zai 2)])) (zac 10) (zag .non)))) sNx))
noncomputable def zcR:Fs :=
  (zaf (sFz [] (zbg 8 true (ze9 []))) (zaf (sFz [4] (zhK (.one 9) (zd4 (zac 4)) zbB)) (zaf (sFz [] (zh3 6 (zaq zbI [(zai 8)]))) sNx)))
noncomputable def zdG:Fs :=
  (zaf (sFz [] (zbg 6 true (ze9 [])))
  (zaf (sFz [3] (zhK (.one 7) (zd4 (zac 3)) zcR))
  (zaf (sFz [] (zaS (zaq zbI [(zai 6)])))
  sNx)))
noncomputable def zcD:List S2.D->Sto->Out S2.D:=zbh 11 false zdG
noncomputable def zdV:Fs :=
  (zaf (sFz [] (zaS (zhL (eUn (zfk "int") (zai 0)) (eUn zd1 (eUn (zfk "bool") (zai 0))))))
  sNx)
noncomputable def zaT:List S2.D->Sto->Out S2.D:=zbh 1 false zdV
noncomputable def zcI:Fs :=
  (zaf (sFz [1] (zaS (zhL (eFn zaT [(zac 1)]) (zc6 leD ltD (zag (.int 0)) (zai 1) (zaq zcT [(zai 0)])))))
  sNx)
noncomputable def zaE:List S2.D->Sto->Out S2.D:=zbh 2 false zcI
noncomputable def zem:Fs :=
  (zaf (sFz [1] (sIf (eOr (eUn zd1 (eFn zaz [(zac 1),(zag (.int 2)),(zag (.int 2))])) (eOr (eUn zd1 (eFn zaT [(zah ixD (zai 1) (zag (.int 0)))])) (eUn zd1 (eFn zaT [(zah ixD (zai 1) (zag (.int 1)))])))) (zaf (sFz [] (zaS (zag (.bl false)))) sNx) sNx))
  (zaf (sFz [0] (zbg 2 false (eFn zbS [(zac 0)])))
  (zaf (sFz [] (zaS (zhL (zc6 leD ltD (zag (.int 0)) (zah ixD (zai 1) (zag (.int 0))) (zah ixD (zai 2) (zag (.int 0)))) (zc6 leD ltD (zag (.int 0)) (zah ixD (zai 1) (zag (.int 1))) (zah ixD (zai 2) (zag (.int 1)))))))
  sNx)))
noncomputable def zbi:List S2.D->Sto->Out S2.D:=zbh 3 false zem
noncomputable def zdD:Fs :=
  (zaf (sFz [1,2,0,1,2] (sIf (eOr (eUn zd1 (eFn zbi [(zac 1),(zac 2)])) (eUn zd1 (eFn zaE [(zac 0),(eFn zam [(zac 1),(zac 2)])]))) (zaf (sFz [] (zaS (zag .non))) sNx) sNx))
  (zaf (sFz [1,2] (zaS (zah ixD (zah ixD (zai 0) (eFn zam [(zac 1),(zac 2)])) (zai 3))))
  sNx))
noncomputable def zaU:List S2.D->Sto->Out S2.D:=zbh 4 false zdD
noncomputable def zcP:Fs :=
  (zaf (sFz [] (zbg 3 false (zc5 [(zah ixD (zai 2) (zag (.int 0))),(zah zcn (zah ixD (zai 2) (zag (.int 1))) (zag (.int 1)))])))
  (zaf (sFz [0,1,2,0,1,3] (zaS (zc5 [(eFn zaU [(zac 0),(zac 1),(zac 2),(zag (.int 1))]),(eFn zaU [(zac 0),(zac 1),(zac 3),(zag (.int 3))])])))
  sNx))
noncomputable def zbx:List S2.D->Sto->Out S2.D:=zbh 4 false zcP
noncomputable def zcv:Fs :=
  (zaf (sFz [] (zbg 3 false (zc5 [(zah zcn (zah ixD (zai 2) (zag (.int 0))) (zag (.int 1))),(zah ixD (zai 2) (zag (.int 1)))])))
  (zaf (sFz [0,1,2,0,1,3] (zaS (zc5 [(eFn zaU [(zac 0),(zac 1),(zac 2),(zag (.int 2))]),(eFn zaU [(zac 0),(zac 1),(zac 3),(zag (.int 0))])])))
  sNx))
noncomputable def zbj:List S2.D->Sto->Out S2.D:=zbh 4 false zcv
noncomputable def ze8:Fs :=
  (zaf (sFz [] (zaS (zhL (zah zll (zag .non) (zai 0)) (zah neD (zah ixD (zai 0) (zag (.int 0))) (zah ixD (zai 0) (zag (.int 1)))))))
  sNx)
noncomputable def zc0:List S2.D->Sto->Out S2.D:=zbh 1 false ze8
noncomputable def zes:Fs :=
  (zaf (sFz [0,1,3] (sIf (eFn zc0 [(eFn zbx [(zac 0),(zac 1),(zac 3)])]) (zaf (sFz [3] (zh3 2 (zc5 [(zac 3),(zag (.str "east"))]))) sNx) sNx)) (zaf (sFz [0,1,3] (sIf (eFn zc0 [(eFn zbj [(zac 0),(zac 1),(zac 3)])]) (zaf (sFz [3] (zh3 2 (zc5 [(zac 3),(zag (.str "south"))]))) sNx) sNx)) sNx))
noncomputable def zgd:Fs :=
  (zaf (sFz [] (zbg 2 true (ze9 [])))
  (zaf (sFz [1] (zhK (.one 3) (zaB (eFn zaC [(zac 1)])) zes))
  (zaf (sFz [] (zgm 2))
  sNx)))
noncomputable def zdv:List S2.D->Sto->Out S2.D:=zbh 4 true zgd
noncomputable def zdW:Fs :=
  (zaf (sFz [1,1,0] (sIf (eUn zd1 (zaq znA [(zb1 1 (.one 0) (zaB (eFn zaC [(zac 1)])) zdq (eFn zaE [(zac 2),(eFn zam [(zac 1),(zac 0)])]) [1,0])])) (zaf (sFz [] (zaS (zag (.bl false)))) sNx) sNx))
  (zaf (sFz [0,1] (zaS (zah eqD (zaq zcT [(eFn zdv [(zac 0),(zac 1)])]) (zag (.int 0)))))
  sNx))
noncomputable def zck:List S2.D->Sto->Out S2.D:=zbh 2 false zdW
noncomputable def zdF:Fs :=
  (zaf (sFz [0,1] (zaS (zah ixD (ze9 [(zc5 [(zag (.int 1)),(zag (.int 1))]),(zc5 [(zag (.int 1)),(zag (.int 2))]),(zc5 [(zag (.int 2)),(zag (.int 1))]),(zc5 [(zag (.int 2)),(zag (.int 2))]),(zc5 [(zag (.int 2)),(zag (.int 2))]),(zc5 [(zag (.int 1)),(zag (.int 4))]),(zc5 [(zag (.int 2)),(zag (.int 3))]),(zc5 [(zag (.int 3)),(zag (.int 2))]),(zc5 [(zag (.int 3)),(zag (.int 1))]),(zc5 [(zag (.int 2)),(zag (.int 3))])]) (eFn zas [(zac 0),(zac 1),(zag (.int 10))]))))
  sNx)
noncomputable def zcC:List S2.D->Sto->Out S2.D:=zbh 2 false zdF
noncomputable def zdI:Fs :=
  (zaf (sFz [0,1,3] (zh3 2 (eFn zbx [(zac 0),(zac 1),(zac 3)]))) (zaf (sFz [0,1,3] (zh3 2 (eFn zbj [(zac 0),(zac 1),(zac 3)]))) sNx))
noncomputable def ze5:Fs :=
  (zaf (sFz [] (zbg 2 true (ze9 [])))
  (zaf (sFz [1] (zhK (.one 3) (zaB (eFn zaC [(zac 1)])) zdI))
  (zaf (sFz [2] (zaS (zb1 1 (.one 0) (zaB (zac 2)) (zah zll (zag .non) (zai 0)) (zac 0) [])))
  sNx)))
noncomputable def zdN:List S2.D->Sto->Out S2.D:=zbh 4 true ze5
noncomputable def zjo:Fs :=
  (zaf (sFz [0,1] (zbg 2 true (eFn zdN [(zac 0),(zac 1)])))
  (zaf (sFz [2] (zbg 3 true (zb1 1 (.one 0) (zaB (zac 2)) (zah eqD (zah ixD (zai 0) (zag (.int 0))) (zah ixD (zai 0) (zag (.int 1)))) (zac 0) [])))
  (zaf (sFz [] (zaS (zc5 [(zaq zcT [(zai 3)]),(zah zsn (zaq zcT [(zai 2)]) (zaq zcT [(zai 3)]))])))
  sNx)))
noncomputable def zhe:List S2.D->Sto->Out S2.D:=zbh 4 false zjo
noncomputable def zjn:Fs :=
  (zaf (sFz [] (zaS (eOr (zah zny (zai 0) (zag .non)) (zah eqD (zai 0) (zai 1)))))
  sNx)
noncomputable def zfJ:List S2.D->Sto->Out S2.D:=zbh 2 false zjn
noncomputable def zcy:Fs :=
  (zaf (sFz [1] (zg5 "Ways" "tiles" (zac 0) (zac 1)))
  (zaf (sFz [2,2] (zg5 "Ways" "ground" (zac 0) (zb1 1 (.one 0) (zaB (eFn zaC [(zac 2)])) zdq (eFn zam [(zac 1),(zac 0)]) [2])))
  (zaf (sFz [2] (zg5 "Ways" "size" (zac 0) (eFn zbS [(zac 2)])))
  (zaf (sFz [3] (zg5 "Ways" "is_round" (zac 0) (zac 3)))
  (zaf (sFz [] (zkS "Ways" "known" 0))
  sNx)))))
noncomputable def zaZ:List S2.D->Sto->Out S2.D:=zbh 4 false zcy
noncomputable def zb7:Fs :=
  (zaf (sFz [] (zaS (zah zgC (zc5 [(zag .non)]) (zah zcn (zah ixD (zgl "Ways" "size" (zac 0)) (zag (.int 1))) (zag (.int 2))))))
  sNx)
noncomputable def zaX:List S2.D->Sto->Out S2.D:=zbh 1 false zb7
noncomputable def zcx:Fs :=
  (zaf (sFz [] (zaS (zah eqD (zah znx (zah zcn (zai 1) (zag (.int 1))) (zah ixD (zgl "Ways" "size" (zac 0)) (zag (.int 1)))) (zag (.int 0)))))
  sNx)
noncomputable def zaY:List S2.D->Sto->Out S2.D:=zbh 2 false zcx
noncomputable def za5:Fs :=
  (zaf (sFz [] (zaS (eIf (zah eqD (zah znx (zai 1) (zah ixD (zgl "Ways" "size" (zac 0)) (zag (.int 1)))) (zag (.int 0))) (zah ixD (zai 3) (zag (.int 3))) (zah ixD (zai 2) (eUn zpx (zag (.int 1)))))))
  sNx)
noncomputable def zav:List S2.D->Sto->Out S2.D:=zbh 4 false za5
noncomputable def zbX:Fs :=
  (zaf (sFz [1] (zbg 4 false (zbY "Ways" "ends_row" zaY (zac 0) [(zac 1)])))
  (zaf (sFz [] (zbg 5 false (zah geD (zah zcn (zai 1) (zah ixD (zgl "Ways" "size" (zac 0)) (zag (.int 1)))) (zaq zcT [(zgl "Ways" "ground" (zac 0))]))))
  (zaf (sFz [4] (zbg 6 false (eIf (zac 4) (zag .non) (zah ixD (zai 3) (zag (.int 1))))))
  (zaf (sFz [5] (zbg 7 false (eIf (zac 5) (zag .non) (zah ixD (zai 3) (zag (.int 2))))))
  (zaf (sFz [4,1,2,3] (zbg 8 false (eIf (zhL (zgl "Ways" "is_round" (zac 0)) (eUn zd1 (zac 4))) (zbY "Ways" "colour_round" zav (zac 0) [(zac 1),(zac 2),(zac 3)]) (zag .non))))
  (zaf (sFz [6,7,8] (zaS (zah zcn (zah zcn (zc5 [(zac 6)]) (eSl (zai 2) (some (zag (.int 2))) (some (eUn zpx (zag (.int 1)))))) (zc5 [(zac 7),(zac 8)]))))
  sNx))))))
noncomputable def zbc:List S2.D->Sto->Out S2.D:=zbh 9 false zbX
noncomputable def zbe:Fs :=
  (zaf (sFz [] (zbg 2 false (zah ixD (zgl "Ways" "ground" (zac 0)) (zai 1))))
  (zaf (sFz [] (sIf (zah zny (zai 2) (zag .non)) (zaf (sFz [] (zaS (eUn lrD (zaq zcT [(zgl "Ways" "tiles" (zac 0))])))) sNx) sNx))
  (zaf (sFz [2,2] (zaS (eIf (eFn zaE [(zgl "Ways" "tiles" (zac 0)),(zac 2)]) (ze9 [(zac 2)]) (ze9 []))))
  sNx)))
noncomputable def zaN:List S2.D->Sto->Out S2.D:=zbh 3 false zbe
noncomputable def zbq:Fs :=
  (zaf (sFz [1] (sIf (eOr (eUn zd1 (zgl "Ways" "is_round" (zac 0))) (eUn zd1 (zbY "Ways" "ends_row" zaY (zac 0) [(zac 1)]))) (zaf (sFz [] (zaS (zag (.bl true)))) sNx) sNx))
  (zaf (sFz [1,2,3] (zaS (zah eqD (zah ixD (zai 3) (zag (.int 1))) (zbY "Ways" "colour_round" zav (zac 0) [(zac 1),(zac 2),(zac 3)]))))
  sNx))
noncomputable def zaW:List S2.D->Sto->Out S2.D:=zbh 4 false zbq
noncomputable def zeq:Fs :=
  (zaf (sFz [] (sIf (eOr (eUn zd1 (eFn zfJ [(zah ixD (zai 2) (zag (.int 0))),(zah ixD (zai 3) (zag (.int 3)))])) (eUn zd1 (eFn zfJ [(zah ixD (zai 2) (zag (.int 1))),(zah ixD (zai 3) (zag (.int 0)))]))) (zaf (sFz [] (zaS (zag (.bl false)))) sNx) sNx))
  (zaf (sFz [1,2,3] (zaS (zbY "Ways" "fits_round" zaW (zac 0) [(zac 1),(zac 2),(zac 3)])))
  sNx))
noncomputable def zc9:List S2.D->Sto->Out S2.D:=zbh 4 false zeq
noncomputable def za8:Fs :=
  (zaf (sFz [] (zbg 5 false (zah ixD (zgl "Ways" "tiles" (zac 0)) (zai 4)))) (zaf (sFz [1,2,5] (sIf (zbY "Ways" "fits" zc9 (zac 0) [(zac 1),(zac 2),(zac 5)]) (zaf (sFz [4,1,2,5] (zh3 3 (zc5 [(zac 4),(zbY "Ways" "seam_behind" zbc (zac 0) [(zac 1),(zac 2),(zac 5)])]))) sNx) sNx)) sNx))
noncomputable def zcQ:Fs :=
  (zaf (sFz [] (zbg 3 true (ze9 [])))
  (zaf (sFz [1] (zhK (.one 4) (zaB (zbY "Ways" "numbers_for" zaN (zac 0) [(zac 1)])) za8))
  (zaf (sFz [] (zgm 3))
  sNx)))
noncomputable def zby:List S2.D->Sto->Out S2.D:=zbh 6 true zcQ
noncomputable def zak(rec_:List S2.D->Sto->Out S2.D):Fs :=
  (zaf (sFz [] (sIf (zah eqD (zai 1) (zaq zcT [(zgl "Ways" "ground" (zac 0))])) (zaf (sFz [] (zaS (zag (.int 1)))) sNx) sNx))
  (zaf (sFz [1,2] (zbg 3 false (zc5 [(zac 1),(zac 2)])))
  (zaf (sFz [] (sIf (zpI "Ways" "known" (zac 3) (zac 0)) (zaf (sFz [1,2,0,1] (zkQ "Ways" "known" (zac 0) 3 (zaq zsm [(zb1 1 (.one 0) (zaB (zbY "Ways" "choices" zby (zac 0) [(zac 1),(zac 2)])) zdq (zbY "Ways" "count_from" rec_ (zac 1) [(zah zcn (zai 2) (zag (.int 1))),(zah ixD (zai 0) (zag (.int 1)))]) [0,1])]))) sNx) sNx))
  (zaf (sFz [] (zaS (zlc "Ways" "known" (zac 0) 3)))
  sNx))))
noncomputable def zax:List S2.D->Sto->Out S2.D:=znY 4 false zak 40
noncomputable def zbC:Fs :=
  (zaf (sFz [] (zaS (zbY "Ways" "count_from" zax (zac 0) [(zag (.int 0)),(zbY "Ways" "first_seam" zaX (zac 0) [])])))
  sNx)
noncomputable def zaG:List S2.D->Sto->Out S2.D:=zbh 1 false zbC
noncomputable def zdg:Fs :=
  (zaf (sFz [0,1] (zaS (zbY "Ways" "count_all" zaG (eMk "Ways" [(.bl false)] zaZ [(zac 0),(zac 1)]) [])))
  sNx)
noncomputable def zaA:List S2.D->Sto->Out S2.D:=zbh 2 false zdg
noncomputable def zgc:Fs :=
  (zaf (sFz [0,1] (zaS (zaq zbI [(zb1 1 (.one 0) (zd4 (zah ixD (zai 1) (zag (.int 0)))) zdq (zaq zbI [(eSl (zai 1) (some (zah zgC (zai 0) (zah ixD (zai 2) (zag (.int 1))))) (some (zah zgC (zah zcn (zai 0) (zag (.int 1))) (zah ixD (zai 2) (zag (.int 1))))))]) [0,1])])))
  sNx)
noncomputable def zeD:List S2.D->Sto->Out S2.D:=zbh 2 false zgc
noncomputable def za6:Fs :=
  (zaf (sFz [] (zbg 7 false (zbY "Ways" "count_from" zax (zac 0) [(zah zcn (zai 5) (zag (.int 1))),(zah ixD (zai 6) (zag (.int 1)))]))) (zaf (sFz [] (sIf (zah ltD (zai 3) (zai 7)) (zaf (sFz [] (zh3 2 (zah ixD (zai 6) (zag (.int 0))))) (zaf (sFz [] (zbg 4 false (zah ixD (zai 6) (zag (.int 1))))) (zaf (sFz [] sBk) sNx))) sNx)) (zaf (sFz [] (zqn 3 (· - ·) (zac 7))) sNx)))
noncomputable def zbG:Fs :=
  (zaf (sFz [5,4] (zhK (.one 6) (zaB (zbY "Ways" "choices" zby (zac 0) [(zac 5),(zac 4)])) za6)) sNx)
noncomputable def zb6:Fs :=
  (zaf (sFz [] (zbg 2 true (ze9 [])))
  (zaf (sFz [1] (zbg 3 false (zac 1)))
  (zaf (sFz [] (zbg 4 false (zbY "Ways" "first_seam" zaX (zac 0) [])))
  (zaf (sFz [] (zhK (.one 5) (zd4 (zaq zcT [(zgl "Ways" "ground" (zac 0))])) zbG))
  (zaf (sFz [] (zgm 2))
  sNx)))))
noncomputable def zbp:List S2.D->Sto->Out S2.D:=zbh 8 true zb6
noncomputable def zbl:Fs :=
  (zaf (sFz [] (sIf (eUn zd1 (zc6 leD ltD (zag (.int 0)) (zai 1) (zbY "Ways" "count_all" zaG (zac 0) []))) (zaf (sFz [] (sRz "NoFill" [(zag (.str "the floor has no fill with this number"))])) sNx) sNx))
  (zaf (sFz [1] (zaS (eFn zeD [(zbY "Ways" "numbers_by" zbp (zac 0) [(zac 1)]),(zgl "Ways" "size" (zac 0))])))
  sNx))
noncomputable def zaV:List S2.D->Sto->Out S2.D:=zbh 2 false zbl
noncomputable def zc4:Fs :=
  (zaf (sFz [0,1] (zaS (eOr (zah zny (zai 1) (zag .non)) (eFn zaE [(zac 0),(zac 1)]))))
  sNx)
noncomputable def zbT:List S2.D->Sto->Out S2.D:=zbh 2 false zc4
noncomputable def zcb:Fs :=
  (zaf (sFz [0,1] (sIf (eUn zd1 (eFn zbi [(zac 0),(zac 1)])) (zaf (sFz [] (sRz "NoPlace" [(zag (.str "there is no such place"))])) sNx) sNx))
  sNx)
noncomputable def za7:List S2.D->Sto->Out S2.D:=zbh 2 false zcb
noncomputable def zdc:Fs :=
  (zaf (sFz [] (zbg 3 false (zah ixD (zai 0) (zah ixD (zai 1) (zag (.int 0))))))
  (zaf (sFz [2] (zbg 4 false (zah zcn (zah zcn (eSl (zai 3) none (some (zah ixD (zai 1) (zag (.int 1))))) (zc5 [(zac 2)])) (eSl (zai 3) (some (zah zcn (zah ixD (zai 1) (zag (.int 1))) (zag (.int 1)))) none))))
  (zaf (sFz [4] (zaS (zah zcn (zah zcn (eSl (zai 0) none (some (zah ixD (zai 1) (zag (.int 0))))) (zc5 [(zac 4)])) (eSl (zai 0) (some (zah zcn (zah ixD (zai 1) (zag (.int 0))) (zag (.int 1)))) none))))
  sNx)))
noncomputable def zbo:List S2.D->Sto->Out S2.D:=zbh 5 false zdc
noncomputable def zej:Fs :=
  (zaf (sFz [1,2] (znS (eFn za7 [(zac 1),(zac 2)])))
  (zaf (sFz [0,3] (sIf (eUn zd1 (eFn zbT [(zac 0),(zac 3)])) (zaf (sFz [] (sRz "NoTile" [(zag (.str "the set has no such number"))])) sNx) sNx))
  (zaf (sFz [1,2,3] (zaS (eFn zbo [(zac 1),(zac 2),(zac 3)])))
  sNx)))
noncomputable def zcq:List S2.D->Sto->Out S2.D:=zbh 4 false zej
noncomputable def zeP:Fs :=
  (zaf (sFz [1,2,0,2] (sIf (eOr (eUn zd1 (eFn zcY [(zac 1),(zac 2)])) (eUn zd1 (eFn zck [(zac 0),(zac 2)]))) (zaf (sFz [] (zaS (zag (.bl false)))) sNx) sNx))
  (zaf (sFz [2,1] (zaS (eFn zbw [(zac 2),(zac 1)])))
  sNx))
noncomputable def zcZ:List S2.D->Sto->Out S2.D:=zbh 3 false zeP
noncomputable def zf9:Fs :=
  (zaf (sFz [0,1] (znS (eFn za7 [(zac 0),(zac 1)])))
  (zaf (sFz [0,1] (zaS (eFn zam [(zac 0),(zac 1)])))
  sNx))
noncomputable def zcV:List S2.D->Sto->Out S2.D:=zbh 2 false zf9
noncomputable def zkp:Fs :=
  (zaf (sFz [2] (sIf (eUn zd1 (eFn zaT [(zac 2)])) (zaf (sFz [] (sRz "NoFill" [(zag (.str "this is no number of a fill"))])) sNx) sNx))
  (zaf (sFz [0,1,2] (zaS (zbY "Ways" "whole_by" zaV (eMk "Ways" [(.bl false)] zaZ [(zac 0),(zac 1)]) [(zac 2)])))
  sNx))
noncomputable def zfK:List S2.D->Sto->Out S2.D:=zbh 3 false zkp
noncomputable def zb0:Fs :=
  (zaf (sFz [] (zbg 6 false (eOr (zah zny (zai 3) (zag .non)) (zah eqD (zai 3) (zai 5))))) (zaf (sFz [6,0,0,1,2,5] (zh3 4 (eIf (zac 6) (eFn zaA [(zac 0),(eFn zcq [(zac 0),(zac 1),(zac 2),(zac 5)])]) (zag (.int 0))))) sNx))
noncomputable def zeo:Fs :=
  (zaf (sFz [1,2] (zbg 3 false (eFn zcV [(zac 1),(zac 2)])))
  (zaf (sFz [] (zbg 4 true (ze9 [])))
  (zaf (sFz [] (zhK (.one 5) (zd4 (zaq zcT [(zai 0)])) zb0))
  (zaf (sFz [] (zgm 4))
  sNx))))
noncomputable def zbD:List S2.D->Sto->Out S2.D:=zbh 7 true zeo
noncomputable def zdh:Fs :=
  (zaf (sFz [0,0] (zaS (zb1 1 (.one 0) (zaB (eFn zaC [(zac 0)])) (zah zny (eFn zam [(zac 1),(zac 0)]) (zag .non)) (zac 0) [0])))
  sNx)
noncomputable def zce:List S2.D->Sto->Out S2.D:=zbh 1 true zdh
noncomputable def zdX:Fs :=
  (zaf (sFz [3,5] (zbg 6 false (eFn zam [(zac 3),(zac 5)]))) (zaf (sFz [0,0,1,5,6] (sIf (zah eqD (eFn zaA [(zac 0),(eFn zcq [(zac 0),(zac 1),(zac 5),(zac 6)])]) (zai 2)) (zaf (sFz [5,6] (zh3 4 (zc5 [(zac 5),(zac 6)]))) sNx) sNx)) sNx))
noncomputable def zfw:Fs :=
  (zaf (sFz [0,1] (zbg 2 false (eFn zaA [(zac 0),(zac 1)])))
  (zaf (sFz [] (sIf (zah eqD (zai 2) (zag (.int 0))) (zaf (sFz [] (zaS (ze9 []))) sNx) sNx))
  (zaf (sFz [0,1] (zbg 3 false (eFn zfK [(zac 0),(zac 1),(zag (.int 0))])))
  (zaf (sFz [] (zbg 4 true (ze9 [])))
  (zaf (sFz [1] (zhK (.one 5) (zaB (eFn zce [(zac 1)])) zdX))
  (zaf (sFz [] (zgm 4))
  sNx))))))
noncomputable def zdO:List S2.D->Sto->Out S2.D:=zbh 7 true zfw
noncomputable def Fo.seq(b:Fs):Fo->Fo | .nx ρ' S'=>b ρ' S' | o=>o
def zuW(a b:Fs)(ρ:Env):Out D->Fo | .ok d S'=>(match isB d with | some true=>a ρ S' | some false=>b ρ S' | none=>.bad) | .exc x S'=>.ex x ρ S' | .bad=>.bad
noncomputable def zwk(i:Nat)(o:Bool)(ρ:Env):Out D->Fo | .ok d S'=>.nx (ρ.set i (some (o,d))) S' | .exc c S'=>.ex c ρ S' | .bad=>.bad
noncomputable def zwi(ρ:Env):Out D->Fo | .ok _ S'=>.nx ρ S' | .exc c S'=>.ex c ρ S' | .bad=>.bad
noncomputable def zwf(ρ:Env):Out D->Fo | .ok d S'=>.rt d S' | .exc c S'=>.ex c ρ S' | .bad=>.bad
noncomputable def ztY(S:Sto):Option (Option (Bool×D))->Fo | some (some (true,d))=>.rt d S | _=>.bad
def zoz(i:Nat)(ρ:Env)(l:List D):Out D->Fo
 | .ok d S'=>if zbb l.length then .nx (ρ.set i (some (true,.lst (l++[d])))) S' else .bad
 | .exc c S'=>.ex c ρ S' | .bad=>.bad
noncomputable def zyK(i:Nat)(f:Fe)(ρ:Env)(S:Sto):Option (Option (Bool×D))->Fo | some (some (true,.lst l))=>zoz i ρ l (f ρ S) | _=>.bad
noncomputable def zwg(S:Sto):Option Env->Fo | some ρ'=>.nx ρ' S | none=>.bad
def zrd(t:Tg)(ρ:Env):Out D->Fo | .ok d S'=>zwg S' (t.put ρ d) | .exc c S'=>.ex c ρ S' | .bad=>.bad
noncomputable def zyG(t:Tg)(a:Fs)(ρ:Env):Out (List D)->Fo | .ok ds S'=>zf2 t a ds ρ S' | .exc c S'=>.ex c ρ S' | .bad=>.bad
noncomputable def zyz(S:Sto):Option (Option (Bool×D))->Out D | some (some (false,d))=>.ok d S | _=>.bad
noncomputable def zyJ(S:Sto):Option (Option (Bool×D))->Out D | some (some (_,d))=>.ok d S | _=>.bad
def kUn(u:D->Option D):Out D->Out D | .ok a S=>Out.of (u a) S | .exc c S=>.exc c S | .bad=>.bad
def zmF(u:D->D->Option D)(a:D):Out D->Out D | .ok b S=>Out.of (u a b) S | .exc c S=>.exc c S | .bad=>.bad
noncomputable def zwj(u:D->D->Option D)(g:Fe)(ρ:Env):Out D->Out D | .ok a S=>zmF u a (g ρ S) | .exc c S=>.exc c S | .bad=>.bad
def kIf(f g:Fe)(ρ:Env):Out D->Out D | .ok d S1=>(match isB d with | some true=>f ρ S1 | some false=>g ρ S1 | none=>.bad) | .exc c S=>.exc c S | .bad=>.bad
def zwl(g:Fe)(ρ:Env):Out D->Out D | .ok d S1=>(match isB d with | some true=>g ρ S1 | some false=>.ok (.bl false) S1 | none=>.bad) | .exc c S=>.exc c S | .bad=>.bad
def kOr(g:Fe)(ρ:Env):Out D->Out D | .ok d S1=>(match isB d with | some true=>.ok (.bl true) S1 | some false=>g ρ S1 | none=>.bad) | .exc c S=>.exc c S | .bad=>.bad
noncomputable def ziy(d:D):Out (List D)->Out (List D) | .ok ds S=>.ok (d::ds) S | .exc c S=>.exc c S | .bad=>.bad
def zra(fs:List Fe)(ρ:Env):Out D->Out (List D) | .ok d S=>ziy d (zan fs ρ S) | .exc c S=>.exc c S | .bad=>.bad
def zyA:Out (List D)->Out D | .ok ds S=>if zbb ds.length then .ok (.tup ds) S else .bad | .exc c S=>.exc c S | .bad=>.bad
def zyD:Out (List D)->Out D | .ok ds S=>if zbb ds.length then .ok (.lst ds) S else .bad | .exc c S=>.exc c S | .bad=>.bad
def zrc(u:List D->Option D):Out (List D)->Out D | .ok ds S=>Out.of (u ds) S | .exc c S=>.exc c S | .bad=>.bad
noncomputable def kFn(r:List D->Sto->Out D):Out (List D)->Out D | .ok ds S=>r ds S | .exc c S=>.exc c S | .bad=>.bad
def zfW(v:D->D->Option D)(b:D):Out D->Out D | .ok c S=>Out.of (v b c) S | .exc c S=>.exc c S | .bad=>.bad
def zfV(v:D->D->Option D)(h:Fe)(ρ:Env)(b:D)(S:Sto):Option D->Out D | some d=>(match isB d with | some true=>zfW v b (h ρ S) | some false=>.ok (.bl false) S | none=>.bad) | none=>.bad
noncomputable def zhn(u v:D->D->Option D)(h:Fe)(ρ:Env)(a:D):Out D->Out D | .ok b S=>zfV v h ρ b S (u a b) | .exc c S=>.exc c S | .bad=>.bad
noncomputable def zpA(u v:D->D->Option D)(g h:Fe)(ρ:Env):Out D->Out D | .ok a S=>zhn u v h ρ a (g ρ S) | .exc c S=>.exc c S | .bad=>.bad
noncomputable def zyE:Out D->Out (Option Int) | .ok (.int i) S=>.ok (some i) S | .ok _ _=>.bad | .exc c S=>.exc c S | .bad=>.bad
def zuS(d:D)(l:Option Int):Out (Option Int)->Out D | .ok u S=>Out.of (slD d l u) S | .exc c S=>.exc c S | .bad=>.bad
def zuT(d:D)(u:Option Fe)(ρ:Env):Out (Option Int)->Out D | .ok l S=>zuS d l (zdr u ρ S) | .exc c S=>.exc c S | .bad=>.bad
def kSl(l u:Option Fe)(ρ:Env):Out D->Out D | .ok d S=>zuT d u ρ (zdr l ρ S) | .exc c S=>.exc c S | .bad=>.bad
noncomputable def zmD:Out D->Out (List D) | .ok (.lst l) S=>.ok l S | .ok (.tup l) S=>.ok l S | .ok _ _=>.bad | .exc c S=>.exc c S | .bad=>.bad
def zt0:Out (List D)->Out (List D) | .ok [.tup l] S=>.ok (zge l) S | .ok _ _=>.bad | .exc c S=>.exc c S | .bad=>.bad
def zyy:Out (List D)->Out (List D) | .ok ds S1=>(match ds with | [.tup l,.tup k]=>.ok (zhJ l k) S1 | _=>.bad) | .exc c S=>.exc c S | .bad=>.bad
def ztX:Out (List D)->Out (List D) | .ok ds S1=>(match ds with | [.int j]=>if -1000000<=j/\j<=1000000 then .ok (zat 0 j) S1 else .bad | _=>.bad) | .exc c S=>.exc c S | .bad=>.bad
def zmE:Out (List D)->Out D | .ok ys S2=>if zbb ys.length then .ok (.lst ys) S2 else .bad | _=>.bad
def zrb(tg:Tg)(c elt:Fe)(ρ0:Env):Out (List D)->Out D | .ok ds S1=>zmE (zbm tg c elt ρ0 ds S1) | .exc c S=>.exc c S | .bad=>.bad
noncomputable def zyI:Option (Option (Bool×D))->Option (Bool×D) | some (some (false,d))=>some (false,d) | _=>none
noncomputable def zuX(ρ:Env)(i:Nat):Option (Option (Bool×D))->Env | some (some (true,d))=>ρ.set i (some (false,d)) | _=>ρ
noncomputable def zuU(own:Bool):Fo->Out D | .rt d S'=>.ok d S' | .nx _ S'=>if own then .bad else .ok .non S' | .ex c _ S'=>.exc c S' | _=>.bad
def kRz(c:Str)(ρ:Env):Out (List D)->Fo | .ok ds S'=>if zbb ds.length then .ex c ρ S' else .bad | .exc x S'=>.ex x ρ S' | .bad=>.bad
def zwh(u:List D->D->Option D)(l:List D):Out D->Out D | .ok d S=>Out.of (u l d) S | .exc c S=>.exc c S | .bad=>.bad
noncomputable def kMt(u:List D->D->Option D)(f:Fe)(ρ:Env)(S:Sto):Option (Option (Bool×D))->Out D | some (some (_,.lst l))=>zwh u l (f ρ S) | _=>.bad
section
variable{ρ:Env}{S:Sto}{f g h k c:Fe}{a b:Fs}
@[simp] def zAO:kMt u f ρ S (some (some (o,.lst l)))=zwh u l (f ρ S):=(rfl)
@[simp] def zzZ:zwh u l (.ok d S)=Out.of (u l d) S:=(rfl)
@[simp] def zw0:zaf a b ρ S=(a ρ S).seq b:=by
 show (match a ρ S with | .nx ρ' S'=>b ρ' S' | o=>o)=_
 cases a ρ S<;>rfl
@[simp] def zx2:(Fo.nx ρ S).seq b=b ρ S:=(rfl)
@[simp] def zx1:(Fo.rt d S).seq b=.rt d S:=(rfl)
@[simp] def zx0:(Fo.bk ρ S).seq b=.bk ρ S:=(rfl)
@[simp] def zxZ:(Fo.ct ρ S).seq b=.ct ρ S:=(rfl)
@[simp] def zxY:(Fo.ex x ρ S).seq b=.ex x ρ S:=(rfl)
@[simp] def zxX:Fo.bad.seq b=.bad:=(rfl)
@[simp] def zvi:zoO ρ S=.ok (zgQ []) S:=(rfl)
def zlI(h:ρ[i]?=some (some (o,zgQ ps))):zhY i ρ=some (o,ps):=by
 unfold zhY;rw [h];show (psO (ps.map _)).map _=_;rw [zfL];rfl
def zpD{k z:D}(h:ρ[i]?=some (some (o,zgQ ps)))(hf:f ρ S=.ok k S1)(hg:g ρ S1=.ok z S2)(hk:asO k=some j):ziM i f g ρ S=.ok (((L2.zeL ps j).map D.int).getD z) S2:=by
 unfold ziM;rw [zlI h];dsimp only;rw [hf];dsimp only [Out.bind];rw [hg];dsimp only;rw [hk]
def zs1{ps:List (Option Int×Int)}{k:D}(h:ρ[i]?=some (some (true,zgQ ps)))(he:fe ρ S=.ok (.int v) S1)(hf:fk ρ S1=.ok k S2)(hk:asO k=some j)(hl:ps.length<=100000):zi5 i fk fe ρ S=.nx (ρ.set i (some (true,zgQ (L2.zpm ps j v)))) S2:=by
 unfold zi5;rw [zlI h];dsimp only;rw [he];dsimp only;rw [hf];dsimp only;rw [hk];dsimp only;rw [if_pos (show zbb ps.length=true from yaD hl)]
def zrg(h:ρ[i]?=some (some (false,.tup l)))(hf:f ρ S=.ok d S1):ziL i f ρ S=Out.of (zd8 l d) S1:=by
 unfold ziL;rw [h];dsimp only;rw [hf];rfl
theorem zuG{i j:Nat}{l m:List D}{f:Fe}{q:Nat}{y:D}{S1:Sto}(hi:ρ[i]?=some (some (true,.lst l)))(hj:ρ[j]?=some (some (true,.lst m)))(hij:i≠j)(hf:f ρ S=.ok (.int q) S1)(hy:m[q]?=some y)(hl:l.length<=100000)(hm:m.length<=100000):zeb i j f ρ S=.nx ((ρ.set j (some (true,.lst (m.eraseIdx q)))).set i (some (true,.lst (l++[y])))) S1:=by
 unfold zeb ziw;rw [hi,hj];dsimp only;rw [if_neg hij];dsimp only;rw [hf];dsimp only;rw [if_pos ⟨by omega,show zbb l.length=true from yaD hl,show zbb m.length=true from yaD hm⟩,yaB,hy]
def zti(hf:f ρ S=.ok d S1):zkR i j f ρ S=.nx ((ρ.set i (some (true,d))).set j (some (true,.lst []))) S1:=by
 unfold zkR;rw [hf]
@[simp] def zy2:sFz is a ρ S=a (frz is ρ) S:=(rfl)
@[simp] def zxp:frz [] ρ=ρ:=(rfl)
@[simp] def zxo:frz (i::is) ρ=frz is (frz1 ρ i):=(rfl)
@[simp] def zzh(i:Nat):frz1 ρ i=zuX ρ i ρ[i]?:=(rfl)
@[simp] def zyi:zuX ρ i (some (some (true,d)))=ρ.set i (some (false,d)):=(rfl)
@[simp] def zyh:zuX ρ i (some (some (false,d)))=ρ:=(rfl)
@[simp] def zyg:zuX ρ i (some none)=ρ:=(rfl)
@[simp] def zy0:sNx ρ S=.nx ρ S:=(rfl)
@[simp] def zy3:sBk ρ S=.bk ρ S:=(rfl)
@[simp] def zw4:zbg i o f ρ S=zwk i o ρ (f ρ S):=(rfl)
@[simp] def zyt:zwk i o ρ (.ok d S)=.nx (ρ.set i (some (o,d))) S:=(rfl)
@[simp] def zys:zwk i o ρ (.exc x S)=.ex x ρ S:=(rfl)
@[simp] def zw3:znS f ρ S=zwi ρ (f ρ S):=(rfl)
@[simp] def zyl:zwi ρ (.ok d S)=.nx ρ S:=(rfl)
@[simp] def zyk:zwi ρ (.exc x S)=.ex x ρ S:=(rfl)
@[simp] def zw1:zaS f ρ S=zwf ρ (f ρ S):=(rfl)
@[simp] def zx9:zwf ρ (.ok d S)=.rt d S:=(rfl)
@[simp] def zx8:zwf ρ (.exc x S)=.ex x ρ S:=(rfl)
@[simp] def zva:znR ρ S=.rt .non S:=(rfl)
@[simp] def zu9:zgm i ρ S=ztY S ρ[i]?:=(rfl)
@[simp] def zx7:ztY S (some (some (true,d)))=.rt d S:=(rfl)
@[simp] def zy1:sIf c a b ρ S=zuW a b ρ (c ρ S):=(rfl)
@[simp] def zyf:zuW a b ρ (.ok (.bl true) S)=a ρ S:=(rfl)
@[simp] def zye:zuW a b ρ (.ok (.bl false) S)=b ρ S:=(rfl)
@[simp] def zyd:zuW a b ρ (.exc x S)=.ex x ρ S:=(rfl)
@[simp] def zw5:zh3 i f ρ S=zyK i f ρ S ρ[i]?:=(rfl)
@[simp] def zAk:zyK i f ρ S (some (some (true,.lst l)))=zoz i ρ l (f ρ S):=(rfl)
@[simp] def zyv:zoz i ρ l (.ok d S)=if zbb l.length then .nx (ρ.set i (some (true,.lst (l++[d])))) S else .bad:=(rfl)
@[simp] def zyu:zoz i ρ l (.exc x S)=.ex x ρ S:=(rfl)
@[simp] def zvd:zg6 t f ρ S=zrd t ρ (f ρ S):=by
 unfold zg6 zrd
 cases f ρ S with
 | ok d S'=>dsimp only;cases t.put ρ d<;>rfl
 | exc c S'=>rfl
 | bad=>rfl
@[simp] def zyr:zrd t ρ (.ok d S)=zwg S (t.put ρ d):=(rfl)
@[simp] def zzV:zwg S (some ρ')=.nx ρ' S:=(rfl)
@[simp] def zw2:zhK t it a ρ S=zyG t a ρ (it ρ S):=(rfl)
@[simp] def zz8:zyG t a ρ (.ok ds S)=zf2 t a ds ρ S:=(rfl)
@[simp] def zyZ:sRz x fs ρ S=kRz x ρ (zan fs ρ S):=(rfl)
@[simp] def zAN:kRz x ρ (.ok ds S)=if zbb ds.length then .ex x ρ S else .bad:=(rfl)
@[simp] def zxa:(Tg.one i).put ρ d=some (ρ.set i (some (false,d))):=(rfl)
@[simp] def zw7:(Tg.tup is).put ρ (.tup ds)=zff is ds ρ:=(rfl)
@[simp] def zw9:zff (i::is) (d::ds) ρ=zff is ds (ρ.set i (some (false,d))):=(rfl)
@[simp] def zw8:zff [] [] ρ=some ρ:=(rfl)
@[simp] def zxr:zac i ρ S=zyz S ρ[i]?:=(rfl)
@[simp] def zzO:zyz S (some (some (false,d)))=.ok d S:=(rfl)
@[simp] def zxy:zai i ρ S=zyJ S ρ[i]?:=(rfl)
@[simp] def zAj:zyJ S (some (some (o,d)))=.ok d S:=(rfl)
@[simp] def zxx:zag d ρ S=.ok d S:=(rfl)
@[simp] def zzj:eUn u f ρ S=kUn u (f ρ S):=by
 unfold eUn;cases f ρ S<;>rfl
@[simp] def zzQ:kUn u (.ok d S)=Out.of (u d) S:=(rfl)
@[simp] def zzP:kUn u (.exc x S)=.exc x S:=(rfl)
@[simp] def zxz:zah u f g ρ S=zwj u g ρ (f ρ S):=by
 unfold zah
 cases f ρ S with
 | ok a S1=>show ((g ρ S1).bind fun b S2=>Out.of (u a b) S2)=zmF u a (g ρ S1);cases g ρ S1<;>rfl
 | exc c S=>rfl
 | bad=>rfl
@[simp] def zyq:zwj u g ρ (.ok d S)=zmF u d (g ρ S):=(rfl)
@[simp] def zyp:zwj u g ρ (.exc x S)=.exc x S:=(rfl)
@[simp] def zyo:zmF u d (.ok e S)=Out.of (u d e) S:=(rfl)
@[simp] def zyn:zmF u d (.exc x S)=.exc x S:=(rfl)
@[simp] def zzn:eIf c f g ρ S=kIf f g ρ (c ρ S):=by
 unfold eIf;cases c ρ S<;>rfl
@[simp] def zz6:kIf f g ρ (.ok (.bl true) S)=f ρ S:=(rfl)
@[simp] def zz5:kIf f g ρ (.ok (.bl false) S)=g ρ S:=(rfl)
@[simp] def zxA:zhL f g ρ S=zwl g ρ (f ρ S):=by
 unfold zhL;cases f ρ S<;>rfl
@[simp] def zyx:zwl g ρ (.ok (.bl true) S)=g ρ S:=(rfl)
@[simp] def zyw:zwl g ρ (.ok (.bl false) S)=.ok (.bl false) S:=(rfl)
@[simp] def zzl:eOr f g ρ S=kOr g ρ (f ρ S):=by
 unfold eOr;cases f ρ S<;>rfl
@[simp] def zzX:kOr g ρ (.ok (.bl true) S)=.ok (.bl true) S:=(rfl)
@[simp] def zzW:kOr g ρ (.ok (.bl false) S)=g ρ S:=(rfl)
@[simp] def zvf:zan [] ρ S=.ok [] S:=(rfl)
@[simp] def zvg:zan (f::fs) ρ S=zra fs ρ (f ρ S):=by
 show ((f ρ S).bind fun d S1=>(zan fs ρ S1).bind fun ds S2=>.ok (d::ds) S2)=_
 cases f ρ S with
 | ok a S1=>show ((zan fs ρ S1).bind fun ds S2=>.ok (a::ds) S2)=ziy a (zan fs ρ S1);cases zan fs ρ S1<;>rfl
 | exc c S=>rfl
 | bad=>rfl
@[simp] def zwb:zra fs ρ (.ok d S)=ziy d (zan fs ρ S):=(rfl)
@[simp] def zwa:zra fs ρ (.exc x S)=.exc x S:=(rfl)
@[simp] def zv9:ziy d (.ok ds S)=.ok (d::ds) S:=(rfl)
@[simp] def zv8:ziy d (.exc x S)=.exc x S:=(rfl)
@[simp] def zxs:zc5 fs ρ S=zyA (zan fs ρ S):=by
 unfold zc5;cases zan fs ρ S<;>rfl
@[simp] def zzR:zyA (.ok ds S)=if zbb ds.length then .ok (.tup ds) S else .bad:=(rfl)
@[simp] def zxu:ze9 fs ρ S=zyD (zan fs ρ S):=by
 unfold ze9;cases zan fs ρ S<;>rfl
@[simp] def zz1:zyD (.ok ds S)=if zbb ds.length then .ok (.lst ds) S else .bad:=(rfl)
@[simp] def zvj:zaq u fs ρ S=zrc u (zan fs ρ S):=by
 unfold zaq;cases zan fs ρ S<;>rfl
@[simp] def zwe:zrc u (.ok ds S)=Out.of (u ds) S:=(rfl)
@[simp] def zwd:zrc u (.exc x S)=.exc x S:=(rfl)
@[simp] def zzo:eFn r fs ρ S=kFn r (zan fs ρ S):=by
 unfold eFn;cases zan fs ρ S<;>rfl
@[simp] def zAa:kFn r (.ok ds S)=r ds S:=(rfl)
@[simp] def zz9:kFn r (.exc x S)=.exc x S:=(rfl)
@[simp] def zuO:zc6 u v f g h ρ S=zpA u v g h ρ (f ρ S):=by
 show ((f ρ S).bind fun a S1=>(g ρ S1).bind fun b S2=>match (u a b).bind isB with
  | some true=>(h ρ S2).bind fun c S3=>Out.of (v b c) S3
  | some false=>.ok (.bl false) S2
  | none=>.bad)=_
 cases f ρ S with
 | ok a S1 =>
  show ((g ρ S1).bind fun b S2=>match (u a b).bind isB with
   | some true=>(h ρ S2).bind fun c S3=>Out.of (v b c) S3
   | some false=>.ok (.bl false) S2
   | none=>.bad)=zhn u v h ρ a (g ρ S1)
  cases g ρ S1 with
  | ok b S2 =>
   show (match (u a b).bind isB with
    | some true=>(h ρ S2).bind fun c S3=>Out.of (v b c) S3
    | some false=>.ok (.bl false) S2
    | none=>.bad)=zfV v h ρ b S2 (u a b)
   cases hu:u a b with
   | none=>rfl
   | some d =>
    show (match isB d with
     | some true=>(h ρ S2).bind fun c S3=>Out.of (v b c) S3
     | some false=>.ok (.bl false) S2
     | none=>.bad)=(match isB d with | some true=>zfW v b (h ρ S2) | some false=>.ok (.bl false) S2 | none=>.bad)
    cases hb:isB d with
    | none=>rfl
    | some x=>cases x with
     | true=>show ((h ρ S2).bind fun c S3=>Out.of (v b c) S3)=zfW v b (h ρ S2);cases h ρ S2<;>rfl
     | false=>rfl
  | exc c S=>rfl
  | bad=>rfl
 | exc c S=>rfl
 | bad=>rfl
@[simp] def zAh:zpA u v g h ρ (.ok d S)=zhn u v h ρ d (g ρ S):=(rfl)
@[simp] def zAg:zhn u v h ρ d (.ok e S)=zfV v h ρ e S (u d e):=(rfl)
@[simp] def zAf:zfV v h ρ e S (some (.bl true))=zfW v e (h ρ S):=(rfl)
@[simp] def zAe:zfV v h ρ e S (some (.bl false))=.ok (.bl false) S:=(rfl)
@[simp] def zAd:zfW v e (.ok d S)=Out.of (v e d) S:=(rfl)
@[simp] def zuN:zdr none ρ S=.ok none S:=(rfl)
@[simp] def zuM:zdr (some f) ρ S=zyE (f ρ S):=by
 show ((f ρ S).bind fun d S1=>match d with | .int i=>.ok (some i) S1 | _=>.bad)=_
 cases f ρ S with
 | ok d S'=>cases d<;>rfl
 | exc c S'=>rfl
 | bad=>rfl
@[simp] def zz4:zyE (.ok (.int i) S)=.ok (some i) S:=(rfl)
@[simp] def zzk:eSl f l u ρ S=kSl l u ρ (f ρ S):=by
 unfold eSl
 cases f ρ S with
 | ok d S1 =>
  show ((zdr l ρ S1).bind fun l S2=>(zdr u ρ S2).bind fun u S3=>Out.of (slD d l u) S3)=zuT d u ρ (zdr l ρ S1)
  cases zdr l ρ S1 with
  | ok l S2=>show ((zdr u ρ S2).bind fun u S3=>Out.of (slD d l u) S3)=zuS d l (zdr u ρ S2);cases zdr u ρ S2<;>rfl
  | exc c S=>rfl
  | bad=>rfl
 | exc c S=>rfl
 | bad=>rfl
@[simp] def zAM:kSl l u ρ (.ok d S)=zuT d u ρ (zdr l ρ S):=(rfl)
@[simp] def zzT:zuT d u ρ (.ok l S)=zuS d l (zdr u ρ S):=(rfl)
@[simp] def zzS:zuS d l (.ok u S)=Out.of (slD d l u) S:=(rfl)
@[simp] def zve:zaB f ρ S=zmD (f ρ S):=by
 show ((f ρ S).bind fun d S1=>match d with | .lst l=>.ok l S1 | .tup l=>.ok l S1 | _=>.bad)=_
 cases f ρ S with
 | ok d S'=>cases d<;>rfl
 | exc c S'=>rfl
 | bad=>rfl
@[simp] def zz3:zmD (.ok (.lst l) S)=.ok l S:=(rfl)
@[simp] def zz2:zmD (.ok (.tup l) S)=.ok l S:=(rfl)
@[simp] def zxq:zm2 f ρ S=zt0 (zan [f] ρ S):=by
 show ((zan [f] ρ S).bind fun ds S1=>match ds with | [.tup l]=>.ok (zge l) S1 | _=>.bad)=_
 cases zan [f] ρ S with
 | ok ds S' =>
  cases ds with
  | nil=>rfl
  | cons d ds=>cases ds with
   | nil=>cases d<;>rfl
   | cons e ds=>cases d<;>rfl
 | exc c S'=>rfl
 | bad=>rfl
@[simp] def zAc:zt0 (.ok [.tup l] S)=.ok (zge l) S:=(rfl)
@[simp] def zyU:zr0 f g ρ S=zyy (zan [f,g] ρ S):=by
 unfold zr0;cases zan [f,g] ρ S<;>rfl
@[simp] def zxT{l k:List D}:zyy (.ok [.tup l,.tup k] S)=.ok (zhJ l k) S:=(rfl)
@[simp] def zw6:zd4 f ρ S=ztX (zan [f] ρ S):=by
 unfold zd4;cases zan [f] ρ S<;>rfl
@[simp] def zx6:ztX (.ok [.int j] S)=if -1000000<=j/\j<=1000000 then .ok (zat 0 j) S else .bad:=(rfl)
@[simp] def zxB:zb1 n t it c f caps ρ S=zrb t c f (zcc n caps ρ) (it ρ S):=by
 unfold zb1
 cases it ρ S with
 | ok ds S' =>
  simp only [Out.bind,zrb]
  cases zbm t c f (zcc n caps ρ) ds S'<;>rfl
 | exc c S'=>rfl
 | bad=>rfl
@[simp] def zym:zrb t c f ρ0 (.ok ds S)=zmE (zbm t c f ρ0 ds S):=(rfl)
@[simp] def zwc:zmE (.ok ys S)=if zbb ys.length then .ok (.lst ys) S else .bad:=(rfl)
@[simp] def zyV:zdq ρ S=.ok (.bl true) S:=(rfl)
@[simp] def zr7:zcc n caps ρ=List.replicate n none++caps.map (zuw ρ):=(rfl)
@[simp] def zxC:zuw ρ i=zyI ρ[i]?:=(rfl)
@[simp] def zAi:zyI (some (some (false,d)))=some (false,d):=(rfl)
def zal:zbh n own fs ds S=zuU own (fs (ds.map (fun d=>some (false,d))++List.replicate (n-ds.length) none) S):=(rfl)
@[simp] def zx5:zuU own (.rt d S)=.ok d S:=(rfl)
@[simp] def zx4:zuU false (.nx ρ S)=.ok .non S:=(rfl)
@[simp] def zx3:zuU own (.ex x ρ S)=.exc x S:=(rfl)
@[simp] def zzg{b:Bool}:isB (.bl b)=some b:=(rfl)
@[simp] def zy4{b:Bool}:zd1 (.bl b)=some (.bl (!b)):=(rfl)
@[simp] def zy5:zpx (.int i)=some (.int (-i)):=(rfl)
@[simp] def zxF:zcn (.int i) (.int j)=some (.int (i+j)):=(rfl)
@[simp] def zxD:zcn (.tup x) (.tup y)=if zbb (x.length+y.length) then some (.tup (x++y)) else none:=(rfl)
@[simp] def zxE:zcn (.lst x) (.lst y)=if zbb (x.length+y.length) then some (.lst (x++y)) else none:=(rfl)
@[simp] def zyW:zsn (.int i) (.int j)=some (.int (i-j)):=(rfl)
@[simp] def zy7:zgC (.int i) (.int j)=if zbL i||zbL j then some (.int (i*j)) else none:=(rfl)
@[simp] def zy8:znx (.int i) (.int j)=if 0<j then some (.int (i % j)) else none:=(rfl)
@[simp] def zzp:zum (.int i) (.int j)=if 0<j/\j<1073741824 then some (.int (i / j)) else none:=(rfl)
@[simp] def zAG:ltD (.int i) (.int j)=some (.bl (decide (i<j))):=(rfl)
@[simp] def zAH:leD (.int i) (.int j)=some (.bl (decide (i<=j))):=(rfl)
@[simp] def zAI:gtD (.int i) (.int j)=some (.bl (decide (j<i))):=(rfl)
@[simp] def zAJ:geD (.int i) (.int j)=some (.bl (decide (j<=i))):=(rfl)
@[simp] def zzc:ixD (.lst l) (.int i)=atI l i:=(rfl)
@[simp] def zza:ixD (.tup l) (.int i)=atI l i:=(rfl)
@[simp] def zzb:ixD (.scr l) (.int i)=(atI l i).map D.int:=(rfl)
@[simp] def zxn:zcT [.lst l]=some (.int l.length):=(rfl)
@[simp] def zxl:zcT [.tup l]=some (.int l.length):=(rfl)
@[simp] def zxm:zcT [.scr l]=some (.int l.length):=(rfl)
@[simp] def zwZ:zbI [.lst l]=some (.tup l):=(rfl)
@[simp] def zwY:zbI [.tup l]=some (.tup l):=(rfl)
@[simp] def zxk:zmA [.lst l]=some (.lst l):=(rfl)
@[simp] def zxj:zmA [.tup l]=some (.lst l):=(rfl)
@[simp] def zze:zny d .non=some (.bl (zdp d)):=(rfl)
@[simp] def zxb:zk1 d .non=some (.bl (!zdp d)):=(rfl)
@[simp] def zxh:zdp .non=true:=(rfl)
@[simp] def zxg:zdp (.int i)=false:=(rfl)
@[simp] def zxf:zdp (.tup l)=false:=(rfl)
@[simp] def zyX:slD (.tup l) x y=some (.tup (zeS l x y)):=(rfl)
@[simp] def zyY:slD (.lst l) x y=some (.lst (zeS l x y)):=(rfl)
@[simp] def zxc:zmi (.bl x) (.bl y)=some (.bl (!decide (x=y))):=(rfl)
@[simp] def zy9:zrZ [.int i,.int j]=some (.int (if j > i then j else i)):=(rfl)
@[simp] def zxi:zv5 [.int i,.int j]=some (.int (if j<i then j else i)):=(rfl)
@[simp] def zu8:zbb n=decide (n<=100000):=(rfl)
def zci{α:Type}(xs:List α)(j:Nat):atI xs (j:Int)=xs[j]?:=by
 unfold atI ixN
 by_cases h:j<xs.length
 ·simp [h]
 ·simp [h]
@[simp] def zu4{α:Type}(xs:List α):atI xs 0=xs[0]?:=zci xs 0
@[simp] def zwM{α:Type}(xs:List α):atI xs 1=xs[1]?:=zci xs 1
@[simp] def zwL{α:Type}(xs:List α):atI xs 2=xs[2]?:=zci xs 2
@[simp] def zuC{α:Type}(xs:List α):atI xs 3=xs[3]?:=zci xs 3
def zdY{α:Type}{xs:List α}(h:0<=i):atI xs i=xs[i.toNat]?:=by
 obtain ⟨n,rfl⟩:=ybl h;exact zci xs n
end
theorem zdS(Iv:Nat->Env->Prop)(step:∀k d ρ,ds[k]?=some d->Iv k ρ->∃ρ1 ρ2,tg.put ρ d=some ρ1/\body ρ1 S=.nx ρ2 S/\Iv (k+1) ρ2)(h0:Iv 0 ρ):∃ρ',zf2 tg body ds ρ S=.nx ρ' S/\Iv ds.length ρ':=by
 have go:∀(n:Nat) (es:List D) (k:Nat) (ρ:Env),es.length=n->ds.drop k=es->k+n=ds.length->Iv k ρ->∃ρ',zf2 tg body es ρ S=.nx ρ' S/\Iv ds.length ρ':=by
  intro n
  induction n with
  | zero =>
   intro es k ρ hl he hk hi;obtain rfl:es=[]:=ybe hl;exact ⟨ρ,rfl,by rw [show ds.length=k by omega];exact hi⟩
  | succ n ih =>
   intro es k ρ hl he hk hi
   cases es with
   | nil=>cases hl
   | cons d es =>
    have hd:ds[k]?=some d:=by
     have:=congrArg (fun l=>l[0]?) he;rw [ybb] at this;simpa using this
    obtain ⟨ρ1,ρ2,e1,e2,hi2⟩:=step k d ρ hd hi;obtain ⟨ρ',e3,e4⟩:=ih es (k+1) ρ2 (by simpa using hl) (by rw [<-List.drop_drop,he];rfl) (by omega) hi2;refine ⟨ρ',?_,e4⟩;unfold zf2;rw [e1];dsimp only;rw [e2];exact e3
 exact go ds.length ds 0 ρ rfl (by simp) (by omega) h0
theorem zcz:∀{ds:List D},(∀d∈ds,∃ρ1,tg.put ρ0 d=some ρ1/\c ρ1 S=.ok (.bl (p d)) S/\(p d=true->elt ρ1 S=.ok (g d) S))->zbm tg c elt ρ0 ds S=.ok ((ds.filter p).map g) S
 | [],_=>rfl
 | d::ds,h=>by
  obtain ⟨ρ1,e1,e2,e3⟩:=h d yaw;have ih:=zcz (ds:=ds) fun x hx=>h x (yao _ hx)
  unfold zbm;rw [e1];dsimp only;rw [e2]
  cases hp:p d with
  | true=>simp [e3 hp,ih,hp]
  | false=>simp [ih,hp]
def zaK(h:∀d∈ds,∃ρ1,tg.put ρ0 d=some ρ1/\elt ρ1 S=.ok (g d) S):zbm tg zdq elt ρ0 ds S=.ok (ds.map g) S:=by
 have:=zcz (c:=zdq) (p:=fun _=>true) (tg:=tg) (elt:=elt) (ρ0:=ρ0) (S:=S) (g:=g) (ds:=ds) fun d hd=>by
  obtain ⟨ρ1,e1,e2⟩:=h d hd;exact ⟨ρ1,e1,rfl,fun _=>e2⟩
 rw [this,List.filter_eq_self.mpr (fun _ _=>rfl)]
mutual
def D.pl:D->Bool
 | .non=>true
 | .int _=>true
 | .str _=>true
 | .tup l=>D.pls l
 | .lst l=>D.pls l
 | _=>false
def D.pls:List D->Bool
 | []=>true
 | d::l=>d.pl&&D.pls l
end
theorem D.pls_iff:∀{l:List D},D.pls l=true↔∀d∈l,d.pl=true
 | []=>by simp [D.pls]
 | d::l=>by simp [D.pls,D.pls_iff (l:=l)]
mutual
theorem ziH:∀(d e:D),d.pl=true->e.pl=true->(d.py.eqv e.py=true↔d=e)
 | .non,e,_,h=>by cases e<;>simp [D.py,PyData.eqv,D.pl] at h ⊢
 | .int i,e,_,h=>by cases e<;>simp [D.py,PyData.eqv,D.pl] at h ⊢
 | .str x,e,_,h=>by cases e<;>simp [D.py,PyData.eqv,D.pl] at h ⊢
 | .tup l,e,hd,h=>by
  cases e with
  | tup k =>
   simp only [D.py,PyData.eqv,D.pl] at hd h ⊢;rw [zjp l k hd h];simp
  | _=>simp [D.py,PyData.eqv,D.pl] at h ⊢
 | .lst l,e,hd,h=>by
  cases e with
  | lst k =>
   simp only [D.py,PyData.eqv,D.pl] at hd h ⊢;rw [zjp l k hd h];simp
  | _=>simp [D.py,PyData.eqv,D.pl] at h ⊢
 | .bl _,_,hd,_=>by simp [D.pl] at hd
 | .dic _,_,hd,_=>by simp [D.pl] at hd
 | .ref _,_,hd,_=>by simp [D.pl] at hd
 | .exc _,_,hd,_=>by simp [D.pl] at hd
 | .scr _,_,hd,_=>by simp [D.pl] at hd
theorem zjp:∀(l k:List D),D.pls l=true->D.pls k=true->(PyData.eqvAll (D.pys l) (D.pys k)=true↔l=k)
 | [],[],_,_=>by simp [D.pys,PyData.eqvAll]
 | [],_::_,_,_=>by simp [D.pys,PyData.eqvAll]
 | _::_,[],_,_=>by simp [D.pys,PyData.eqvAll]
 | d::l,e::k,h1,h2=>by
  simp only [D.pls,yac] at h1 h2;simp only [D.pys,PyData.eqvAll,yac,List.cons.injEq];rw [ziH d e h1.1 h2.1,zjp l k h1.2 h2.2]
end
def zwA(h1:d.pl=true)(h2:e.pl=true)(f1:d.fit 9=true)(f2:e.fit 9=true):eqD d e=some (.bl (@decide (d=e) (Classical.propDecidable _))):=by
 unfold eqD;rw [f1,f2];have:=ziH d e h1 h2;simp only [Bool.and_self,yb4,Option.some.injEq,D.bl.injEq];unfold zfq;cases hb:d.py.eqv e.py
 ·rw [hb] at this;symm;apply @yaJ _ (Classical.propDecidable _);intro z;exact absurd (this.mpr z) (by simp)
 ·symm;apply @yaD _ (Classical.propDecidable _);exact this.mp hb
@[simp] def zhu:D.fit n (.int i)=true:=by cases n<;>rfl
@[simp] def zwx:D.fit n .non=true:=by cases n<;>rfl
@[simp] def zww:D.fit (n+1) (.tup l)=D.fits n l:=(rfl)
@[simp] def zwy:D.fit (n+1) (.lst l)=D.fits n l:=(rfl)
@[simp] def zuZ:D.fits n []=true:=by cases n<;>rfl
@[simp] def zuf:D.fits n (d::l)=(d.fit n&&D.fits n l):=by cases n<;>rfl
@[simp] def zzi:eqD (.int i) (.int j)=some (.bl (decide (i=j))):=by
 unfold eqD zfq;simp [D.py,PyData.eqv]
 cases h:(i == j)<;>simp_all
@[simp] def zy6:neD (.int i) (.int j)=some (.bl (!decide (i=j))):=by
 unfold neD zfq;simp [D.py,PyData.eqv]
 cases h:(i == j)<;>simp_all
def zgP:eqD (.scr l) (.lst [])=some (.bl (decide (l=[]))):=by
 cases l with
 | nil=>rfl
 | cons a l=>simp [eqD,D.fit,D.fits,zfq,D.py,D.pys,PyData.eqv,PyData.eqvAll]
noncomputable def zlg(l:List Int)(k:Int):Int:=if k<l.length then l.getD k.toNat 0 else if l=[] then 0 else l.getD (k % l.length).toNat 0*31+k
def zb9(l:List Int)(k:Int)(many:Int):Int :=
 let d:=(zlg l k+6151*(k+1))*40692 % 2147483399
 (d*d+d / 31) % 2147483629 % many
def zb4(l:List Int)(k:Int)(h:0<many):0<=zb9 l k many/\zb9 l k many<many:=⟨Int.emod_nonneg _ (by omega),yc0 _ h⟩
@[simp] def zyN:zbL 31=true:=by decide
@[simp] def zu0:zbL 6151=true:=by decide
@[simp] def zui:zbL 40692=true:=by decide
theorem zkq(h0:-(2 ^ 64)<i)(h:i<2 ^ 64):zbL i=true:=by unfold zbL;simp;omega
theorem znV(hk:0<=k):zb3 [.scr l,.int k] S=.ok (.int (zlg l k)) S:=by
 unfold zlg
 by_cases h:k<l.length
 ·have hx:l[k.toNat]?=some l[k.toNat]:=yaa (by omega);rw [if_pos h,yab,hx];simp [zb3,zal,zcw,h,zdY hk,hx]
 ·by_cases h0:l=[]
  ·subst h0;simp [zb3,zal,zcw,zgP,show ¬ k<0 by omega]
  ·have hl:0<l.length:=by cases l with | nil=>exact absurd rfl h0 | cons _ _=>simp
   have hm0:0<=k % (l.length:Int):=Int.emod_nonneg _ (by omega);have hm1:k % (l.length:Int)<l.length:=yc0 _ (by omega);have hx:l[(k % (l.length:Int)).toNat]?=some (l[(k % (l.length:Int)).toNat]'(by omega)):=yaa (by omega);rw [if_neg h,if_neg h0,yab,hx];simp [zb3,zal,zcw,h,h0,zgP,zdY hm0,hx,hl]
theorem zbR(hk:0<=k)(hm:0<many):zas [.scr l,.int k,.int many] S=.ok (.int (zb9 l k many)) S:=by
 unfold zb9;have h0:0<=(zlg l k+6151*(k+1))*40692 % 2147483399:=Int.emod_nonneg _ (by omega);have h1:(zlg l k+6151*(k+1))*40692 % 2147483399<2147483399:=yc0 _ (by omega);have hf:zbL ((zlg l k+6151*(k+1))*40692 % 2147483399)=true:=zkq (by omega) (by omega);simp [zas,zal,zep,znV hk,hf,hm]
noncomputable def zad(t:List Int):D:=.tup (t.map D.int)
def zoF{t u:List Int}:t.map D.int=u.map D.int↔t=u:=by
 constructor
 ·intro h
  induction t generalizing u with
  | nil=>cases u with | nil=>rfl | cons _ _=>cases h
  | cons a t ih=>cases u with
   | nil=>cases h
   | cons b u =>
    simp only [yay,List.cons.injEq,D.int.injEq] at h;rw [h.1,ih h.2]
 ·rintro rfl;rfl
def znI:zad t=zad u↔t=u:=by unfold zad;rw [D.tup.injEq];exact zoF
def zhf{t:List Int}:D.pls (t.map D.int)=true:=by rw [D.pls_iff];intro d hd;obtain ⟨i,_,rfl⟩:=yat.mp hd;rfl
def zl6:(zad t).pl=true:=zhf
def zf6{t:List Int}:D.fits n (t.map D.int)=true:=by rw [D.fits_iff];intro d hd;obtain ⟨i,_,rfl⟩:=yat.mp hd;exact zhu
def zkj:(zad t).fit (n+1)=true:=zf6
theorem zmq:∀{l:List D},d.pl=true->D.pls l=true->(zj7 d l=true↔d∈l)
 | [],_,_=>by simp [zj7]
 | e::l,h,hl=>by
  simp only [D.pls,yac] at hl;have ih:=zmq (d:=d) (l:=l) h hl.2;have e1:=ziH e d hl.1 h;unfold zj7;simp only [List.any_cons,ycN,yaA];unfold zj7 at ih;rw [ih];unfold zfq;rw [e1]
  constructor<;>(intro z;rcases z with z | z<;>simp [z])
def zir{ts:Z2}:zll (zad t) (.lst (ts.map zad))=some (.bl (!decide (t∈ts))):=by
 have f1:(zad t).fit 8=true:=zkj
 have f2:D.fits 8 (ts.map zad)=true:=by rw [D.fits_iff];intro d hd;obtain ⟨i,_,rfl⟩:=yat.mp hd;exact zkj
 have p2:D.pls (ts.map zad)=true:=by rw [D.pls_iff];intro d hd;obtain ⟨i,_,rfl⟩:=yat.mp hd;exact zl6
 have m:=zmq (d:=zad t) zl6 p2
 have:(zad t∈ts.map zad)↔t∈ts:=by
  rw [yat];constructor
  ·rintro ⟨u,hu,e⟩;rw [<-znI.mp e];exact hu
  ·intro h;exact ⟨t,h,rfl⟩
 rw [this] at m;unfold zll;simp only [zkO,f1,f2,Bool.and_self,yb4,Option.some.injEq,D.bl.injEq];congr 1
 by_cases h:t∈ts
 ·rw [m.mpr h];simp [h]
 ·cases hm:zj7 (zad t) (ts.map zad)
  ·simp [h]
  ·exact absurd (m.mp hm) h
structure Tiles(most:Int)(ts:Z2):Prop where
 ne:1<=ts.length
 le:(ts.length:Int)<=most
 four:∀t∈ts,t.length=4
 col:∀t∈ts,∀c∈t,0<=c/\c<3
 nd:ts.Nodup
def zcU{k:Nat}(h:(zat 0 hi)[k]?=some d):d=.int k/\(k:Int)<hi:=by
 unfold zat at h;rw [yal] at h
 cases hr:(List.range (hi-0).toNat)[k]? with
 | none=>rw [hr] at h;cases h
 | some j =>
  rw [hr] at h;obtain ⟨h1,h2⟩:=yan.mp hr;simp at h1 h2;subst h2;simp at h;exact ⟨h.symm,by omega⟩
@[simp] def zlY:(zat 0 hi).length=hi.toNat:=by unfold zat;simp
def zif(h:d∈zat 0 hi):∃k:Nat,d=.int k/\(k:Int)<hi:=by
 obtain ⟨k,hk⟩:=List.getElem?_of_mem h;exact ⟨k,zcU hk⟩
def zsW:zat 0 4=[.int 0,.int 1,.int 2,.int 3]:=by rfl
@[simp] def zAy:zbL 4=true:=by decide
@[simp] def zAx:zbL 7=true:=by decide
theorem zpV(ha:0<=at')(hk:0<=k)(hc:0<col)(hc3:col<=3)(hn:ts.length<=1000) :
  ∃t y',t.length=4/\(∀c∈t,0<=c/\c<3)/\zbA [some (false,.scr l),some (false,.int at'),some (false,.int most),some (false,.int col),some (true,.lst (ts.map zad)),some (false,.int k),y] S
   = .nx [some (false,.scr l),some (false,.int at'),some (false,.int most),some (false,.int col),some (true,.lst ((if t∈ts then ts else ts++[t]).map zad)),some (false,.int k),y'] S:=by
 have hcomp:∀ρ0:Env,ρ0=[none,some (false,.int at'),some (false,.int col),some (false,.int k),some (false,.scr l)]->zbm (.one 0) zdq (eFn zas [(zac 4),(zah zcn (zah zcn (zah zcn (zai 1) (zah zgC (zag (.int 4)) (zai 3))) (zag (.int 2))) (zai 0)),(zac 2)]) ρ0 (zat 0 4) S
   = .ok ([zb9 l (at'+4*k+2+0) col,zb9 l (at'+4*k+2+1) col,zb9 l (at'+4*k+2+2) col,zb9 l (at'+4*k+2+3) col].map D.int) S:=by
  rintro _ rfl;rw [zsW,zaK (g:=fun d=>match d with | .int i=>.int (zb9 l (at'+4*k+2+i) col) | _=>.non)]
  ·rfl
  ·intro d hd;simp only [yaA,yaV,ycF] at hd
   rcases hd with rfl | rfl | rfl | rfl<;>exact ⟨_,rfl,by simp;rw [zbR (by omega) hc]⟩
 have b0:=zb4 l (at'+4*k+2+0) hc;have b1:=zb4 l (at'+4*k+2+1) hc;have b2:=zb4 l (at'+4*k+2+2) hc;have b3:=zb4 l (at'+4*k+2+3) hc;generalize zb9 l (at'+4*k+2+0) col=p0 at *;generalize zb9 l (at'+4*k+2+1) col=p1 at *;generalize zb9 l (at'+4*k+2+2) col=p2 at *;generalize zb9 l (at'+4*k+2+3) col=p3 at *
 have fin:∀t:List Int,(zaf (sFz [] (sIf (zah zll (zai 6) (zai 4)) (zaf (sFz [6] (zh3 4 (zac 6))) sNx) sNx)) sNx) [some (false,.scr l),some (false,.int at'),some (false,.int most),some (false,.int col),some (true,.lst (ts.map zad)),some (false,.int k),some (false,zad t)] S
   = .nx [some (false,.scr l),some (false,.int at'),some (false,.int most),some (false,.int col),some (true,.lst ((if t∈ts then ts else ts++[t]).map zad)),some (false,.int k),some (false,zad t)] S:=by
  intro t
  by_cases h:t∈ts
  ·simp [zir,h]
  ·simp [zir,h,show ts.length<=100000 by omega]
 by_cases h3:zb9 l (at'+60+k) 3=0
 ·refine ⟨[p0,p1,p0,p1],some (false,zad [p0,p1,p0,p1]),rfl,by simp;omega,?_⟩;rw [<-fin];simp [zbA,hcomp,zbR (show 0<=at'+60+k by omega) (show (0:Int)<3 by omega),h3];rfl
 ·refine ⟨[p0,p1,p2,p3],some (false,zad [p0,p1,p2,p3]),rfl,by simp;omega,?_⟩;rw [<-fin];simp [zbA,hcomp,zbR (show 0<=at'+60+k by omega) (show (0:Int)<3 by omega),h3];rfl
theorem zlQ(ha:0<=at')(hm:0<most)(hm2:most<=100):∃ts,Tiles most ts/\zcB [.scr l,.int at',.int most] S=.ok (.tup (ts.map zad)) S:=by
 have b:=zb4 l at' (many:=2) (by omega);have n:=zb4 l (at'+1) hm;have p1:=zbR (l:=l) (S:=S) ha (show (0:Int)<2 by omega);have p2:=zbR (l:=l) (S:=S) (show 0<=at'+1 by omega) hm;generalize zb9 l at' 2=c at *;generalize zb9 l (at'+1) most=m at *
 obtain ⟨ρ',e,ts,x,y,rfl,h1,h2,h3,h4,h5⟩:=zdS (tg:=.one 5) (body:=zbA) (ds:=zat 0 (1+m)) (S:=S) (fun k ρ=>∃ts x y,ρ=[some (false,.scr l),some (false,.int at'),some (false,.int most),some (false,.int (2+c)),some (true,.lst (ts.map zad)),x,y]/\ts.length<=k/\(0<k->1<=ts.length)/\(∀t∈ts,t.length=4)/\(∀t∈ts,∀c∈t,0<=c/\c<3)/\ts.Nodup) (by
   rintro k d ρ hd ⟨ts,x,y,rfl,h1,h2,h3,h4,h5⟩;obtain ⟨rfl,hk⟩:=zcU hd;obtain ⟨t,y',a1,a2,a3⟩:=zpV (l:=l) (at':=at') (most:=most) (col:=2+c) (k:=k) (S:=S) (ts:=ts) (y:=y) ha (by omega) (by omega) (by omega) (by omega);refine ⟨_,_,rfl,a3,_,_,_,rfl,?_,?_,?_,?_,?_⟩
   ·split<;>(try simp)<;>omega
   ·intro _;split
    ·rename_i h;exact List.length_pos_of_mem h
    ·simp
   ·intro u hu;split at hu
    ·exact h3 u hu
    ·rw [ybr,yaF] at hu
     rcases hu with hu | rfl
     ·exact h3 u hu
     ·exact a1
   ·intro u hu;split at hu
    ·exact h4 u hu
    ·rw [ybr,yaF] at hu
     rcases hu with hu | rfl
     ·exact h4 u hu
     ·exact a2
   ·split
    ·exact h5
    ·rename_i h;rw [yc7];refine ⟨h5,by simp,?_⟩
     intro a ha b hb;rw [yaF] at hb;subst hb;rintro rfl;exact h ha)
  (ρ:=[some (false,.scr l),some (false,.int at'),some (false,.int most),some (false,.int (2+c)),some (true,.lst []),none,none]) ⟨[],none,none,rfl,by simp,by simp,by simp,by simp,by simp⟩
 rw [zlY] at h1 h2;refine ⟨ts,⟨h2 (by omega),by omega,h3,h4,h5⟩,?_⟩;simp [zcB,zal,zdE,p1,p2,show -1000000<=1+m/\1+m<=1000000 by omega,e]
noncomputable def oD:Option Int->D | none=>.non | some i=>.int i
noncomputable def zcS(c:Nat)(g:Nat->Option Int):List D:=(List.range c).map fun j=>oD (g j)
def zeu(c:Nat)(g:Nat->Option Int):D:=.tup (zcS c g)
noncomputable def zca(r c:Nat)(g:Z1):List D:=(List.range r).map fun i=>zeu c (g i)
def flr(r c:Nat)(g:Z1):D:=.tup (zca r c g)
@[simp] def zey:(zcS c g).length=c:=by simp [zcS]
@[simp] def zdT:(zca r c g).length=r:=by simp [zca]
def zdM(h:j<c):(zcS c g)[j]?=some (oD (g j)):=by simp [zcS,h]
def zcH(h:i<r):(zca r c g)[i]?=some (zeu c (g i)):=by simp [zca,h]
@[simp] def zvI(h:j<(zcS c g).length):(zcS c g)[j]=oD (g j):=by simp [zcS]
@[simp] def zwu(h:i<(zca r c g).length):(zca r c g)[i]=zeu c (g i):=by simp [zca]
def zlV:zcS (k+1) g=zcS k g++[oD (g k)]:=by simp [zcS,ya5]
def zmT:zca (k+1) c g=zca k c g++[zeu c (g k)]:=by simp [zca,ya5]
def zlk(l:List Int)(at' n m:Int)(i j:Nat):Option Int:=if zb9 l (at'+7*i+j) (n*m)<n then some (zb9 l (at'+7*i+j) (n*m)) else none
theorem ztB(h:0<n*m):∀x,zlk l at' n m i j=some x->0<=x/\x<n:=by
 intro x e;unfold zlk at e;have:=zb4 l (at'+7*i+j) h;split at e
 ·cases e;omega
 ·cases e
theorem zoM{l:List Int}{at' m:Int}{ts:List D}{r c:Nat}{i:Nat}{S:Sto}{A B Mm:Option (Bool×D)}{y:Option (Bool×D)}{z:Option (Bool×D)}(ha:0<=at')(hp:0<(ts.length:Int)*m)(hm:zbL m=true)(hc:c<=1000) :
  ∃y' z',zf2 (.one 9) zbB (zat 0 c) [some (false,.scr l),some (false,.int at'),some (false,.tup ts),A,B,some (false,.int m),Mm,some (false,.int i),some (true,.lst []),y,z] S
   = .nx [some (false,.scr l),some (false,.int at'),some (false,.tup ts),A,B,some (false,.int m),Mm,some (false,.int i),some (true,.lst (zcS c (zlk l at' ts.length m i))),y',z'] S:=by
 obtain ⟨ρ',e,y',z',rfl⟩:=zdS (tg:=.one 9) (body:=zbB) (ds:=zat 0 c) (S:=S) (fun k ρ=>∃y z,ρ=[some (false,.scr l),some (false,.int at'),some (false,.tup ts),A,B,some (false,.int m),Mm,some (false,.int i),some (true,.lst (zcS k (zlk l at' ts.length m i))),y,z]) (by
  rintro k d ρ hd ⟨y,z,rfl⟩;obtain ⟨rfl,hk⟩:=zcU hd;have p:=zbR (l:=l) (S:=S) (show 0<=at'+7*(i:Int)+(k:Int) by omega) hp;have pn:=zb4 l (at'+7*(i:Int)+(k:Int)) hp;refine ⟨_,_,rfl,?_,some (false,.int k),some (false,.int (zb9 l (at'+7*i+k) (ts.length*m))),rfl⟩
  ·rw [zlV]
   by_cases h:zb9 l (at'+7*(i:Int)+(k:Int)) (ts.length*m)<ts.length
   ·simp [zbB,p,hm,h,zlk,oD,show k<=100000 by omega]
   ·simp [zbB,p,hm,h,zlk,oD,show k<=100000 by omega])
  (ρ:=[some (false,.scr l),some (false,.int at'),some (false,.tup ts),A,B,some (false,.int m),Mm,some (false,.int i),some (true,.lst []),y,z]) ⟨y,z,rfl⟩
 exact ⟨y',z',by simpa using e⟩
theorem zlU(ha:0<=at')(hp:0<(ts.length:Int)*m)(hm:zbL m=true)(hr:0<=r)(hr2:r<=1000)(hc:0<=c)(hc2:c<=1000) :
  zcD [.scr l,.int at',.tup ts,.int r,.int c,.int m] S=.ok (flr r.toNat c.toNat (zlk l at' ts.length m)) S:=by
 obtain ⟨r,rfl⟩:=ybl hr;obtain ⟨c,rfl⟩:=ybl hc
 obtain ⟨ρ',e,x1,x2,x3,x4,rfl⟩:=zdS (tg:=.one 7) (body:=zcR) (ds:=zat 0 r) (S:=S) (fun k ρ=>∃x1 x2 x3 x4,ρ=[some (false,.scr l),some (false,.int at'),some (false,.tup ts),some (false,.int r),some (false,.int c),some (false,.int m),some (true,.lst (zca k c (zlk l at' ts.length m))),x1,x2,x3,x4]) (by
  rintro k d ρ hd ⟨x1,x2,x3,x4,rfl⟩;obtain ⟨rfl,hk⟩:=zcU hd;obtain ⟨y',z',e⟩:=zoM (l:=l) (at':=at') (m:=m) (ts:=ts) (r:=r) (c:=c) (i:=k) (S:=S) (A:=some (false,.int r)) (B:=some (false,.int c)) (Mm:=some (true,.lst (zca k c (zlk l at' ts.length m)))) (y:=x3) (z:=x4) ha hp hm (by omega);refine ⟨_,_,rfl,?_,some (false,.int k),some (true,.lst (zcS c (zlk l at' ts.length m k))),y',z',rfl⟩
  ·rw [zmT]
   simp [zcR,e,zeu,show -1000000<=(c:Int)/\(c:Int)<=1000000 by omega,show k<=100000 by omega])
  (ρ:=[some (false,.scr l),some (false,.int at'),some (false,.tup ts),some (false,.int r),some (false,.int c),some (false,.int m),some (true,.lst []),none,none,none,none]) ⟨none,none,none,none,rfl⟩
 simp at e;simp [zcD,zal,zdG,e,flr,show -1000000<=(r:Int)/\(r:Int)<=1000000 by omega]
noncomputable abbrev plD(i j:Nat):D:=.tup [.int i,.int j]
noncomputable def zbd(r c:Nat):List D:=(List.range r).flatMap fun i=>(List.range c).map fun j=>plD i j
def zih:zbd (k+1) c=zbd k c++(List.range c).map fun j=>plD k j:=by simp [zbd,ya5]
def za0(h:d∈zbd r c):∃i j,i<r/\j<c/\d=plD i j:=by
 simp only [zbd,ybf,yaI,yat] at h;obtain ⟨i,hi,j,hj,e⟩:=h;exact ⟨i,j,hi,hj,e.symm⟩
def zjW(hi:i<r)(hj:j<c):plD i j∈zbd r c:=by
 simp only [zbd,ybf,yaI,yat];exact ⟨i,hi,j,hj,rfl⟩
def zbV:(zbd r c).length=r*c:=by
 induction r with
 | zero=>simp [zbd]
 | succ k ih=>rw [zih,yah,ih];simp [yb9]
def zew(h:1<=r):zbS [flr r c g] S=.ok (.tup [.int r,.int c]) S:=by
 have e:=zcH (c:=c) (g:=g) (i:=0) (r:=r) (by omega);simp [zbS,zal,zgb,flr,e,zeu,show 0<r by omega]
theorem za9(h:1<=r)(hr:r<=100)(hc:c<=100):zaC [flr r c g] S=.ok (.lst (zbd r c)) S:=by
 have inner:∀(k:Nat) (y:Option (Bool×D)),k<r->∃y',zf2 (.one 4) zch (zat 0 c) [some (false,flr r c g),some (false,.tup [.int r,.int c]),some (true,.lst (zbd k c)),some (false,.int k),y] S
   = .nx [some (false,flr r c g),some (false,.tup [.int r,.int c]),some (true,.lst (zbd (k+1) c)),some (false,.int k),y'] S:=by
  intro k y hk
  obtain ⟨ρ',e,y',rfl⟩:=zdS (tg:=.one 4) (body:=zch) (ds:=zat 0 c) (S:=S) (fun j ρ=>∃y,ρ=[some (false,flr r c g),some (false,.tup [.int r,.int c]),some (true,.lst (zbd k c++(List.range j).map fun j=>plD k j)),some (false,.int k),y]) (by
   rintro j d ρ hd ⟨y,rfl⟩;obtain ⟨rfl,hj⟩:=zcU hd
   have hl:k*c+j<=100000:=by
    have:k*c<=100*100:=ybd (by omega) (by omega);omega
   refine ⟨_,_,rfl,?_,some (false,.int j),rfl⟩
   simp [zch,ya5,zbV,hl])
   (ρ:=[some (false,flr r c g),some (false,.tup [.int r,.int c]),some (true,.lst (zbd k c)),some (false,.int k),y]) ⟨y,by simp⟩
  refine ⟨y',?_⟩;rw [e,zih];simp
 obtain ⟨ρ',e,x,y,rfl⟩:=zdS (tg:=.one 3) (body:=zdj) (ds:=zat 0 r) (S:=S) (fun k ρ=>∃x y,ρ=[some (false,flr r c g),some (false,.tup [.int r,.int c]),some (true,.lst (zbd k c)),x,y]) (by
  rintro k d ρ hd ⟨x,y,rfl⟩;obtain ⟨rfl,hk⟩:=zcU hd;obtain ⟨y',e⟩:=inner k y (by omega);refine ⟨_,_,rfl,?_,some (false,.int k),y',rfl⟩
  simp [zdj,e,show -1000000<=(c:Int)/\(c:Int)<=1000000 by omega])
  (ρ:=[some (false,flr r c g),some (false,.tup [.int r,.int c]),some (true,.lst []),none,none]) ⟨none,none,rfl⟩
 simp at e;simp [zaC,zal,zek,zew h,e,show -1000000<=(r:Int)/\(r:Int)<=1000000 by omega]
def zbJ(hi:i<r)(hj:j<c):zam [flr r c g,plD i j] S=.ok (oD (g i j)) S:=by
 simp [zam,zal,zel,flr,plD,zci,zcH hi,zdM hj,zeu]
def zds:zaz [.tup l,.int a,.int b] S=.ok (.bl (decide (a<=l.length/\(l.length:Int)<=b))) S:=by
 by_cases h1:a<=(l.length:Int)
 ·by_cases h2:(l.length:Int)<=b<;>simp [zaz,zal,zcf,zfk,h1,h2]
 ·simp [zaz,zal,zcf,zfk,h1]
theorem zh7:zbU [.tup l,.tup k] S=.ok (.bl (decide (l.length=k.length))) S:=by
 simp [zbU,zal,zdf,zds];rw [<-Bool.decide_and,ybH];omega
def zrK{α:Type}{xs:List α}{p:α->Bool}:zhF (xs.map fun x=>D.bl (p x))=some (xs.map p):=by
 induction xs with
 | nil=>rfl
 | cons x xs ih=>simp [zhF,ih]
theorem all_map{α:Type}{xs:List α}{p:α->Bool}:znA [.lst (xs.map fun x=>D.bl (p x))]=some (.bl (xs.all p)):=by
 show Option.map _ (zhF _)=_;rw [zrK];simp [List.all_map]
@[simp] def zAz:eqD (oD a) (oD b)=some (.bl (decide (a=b))):=by
 cases a<;>cases b<;>simp [oD]
 ·rfl
 ·rfl
 ·rfl
@[simp] def zxR:zdp (oD a)=decide (a=none):=by cases a<;>simp [oD]
theorem zfC{l:List D}{a k:Nat}{S:Sto}:zcW [.tup l,.int a,.int k] S=.ok (.tup ((l.drop a).take k)) S:=by
 have h1:¬ ((0:Int) > a):=by omega
 have h2:¬ ((0:Int) > (a:Int)+(k:Int)):=by omega
 have e:zeS l (some (a:Int)) (some ((a:Int)+(k:Int)))=(l.drop a).take k:=by
  unfold zeS;rw [show (a:Int)+(k:Int)=((a+k:Nat):Int) by omega,HT.zeX,HT.zeX]
  by_cases h:a<=l.length
  ·rw [ybs h]
   by_cases h':a+k<=l.length
   ·rw [ybs h',show a+k-a=k by omega]
   ·rw [Nat.min_eq_right (by omega),ybC (by simp),ybC (by simp;omega)]
  ·rw [ybR (by omega),ybR (by omega)];simp
 simp [zcW,zal,zga,h1,h2,e]
theorem zqr:((zcS c g).drop a).take k=zcS (min k (c-a)) fun j=>g (a+j):=by
 apply ya9;intro i;rw [ycg]
 by_cases h:i<k
 ·rw [if_pos h,ybb]
  by_cases h':a+i<c
  ·rw [zdM h',zdM (by omega)]
  ·rw [yav (by simp;omega),yav (by simp;omega)]
 ·rw [if_neg h,yav (by simp;omega)]
def zrl:((zca r c g).drop a).take k=zca (min k (r-a)) c fun i=>g (a+i):=by
 apply ya9;intro i;rw [ycg]
 by_cases h:i<k
 ·rw [if_pos h,ybb]
  by_cases h':a+i<r
  ·rw [zcH h',zcH (by omega)]
  ·rw [yav (by simp;omega),yav (by simp;omega)]
 ·rw [if_neg h,yav (by simp;omega)]
theorem zjP{r c a b k m:Nat}{g:Z1}{S:Sto}(hr:r<=1000):zjT [flr r c g,.int a,.int b,.int k,.int m] S=.ok (flr (min k (r-a)) (min m (c-b)) fun i j=>g (a+i) (b+j)) S:=by
 have e:zbm (.one 0) zdq (eFn zcW [(zac 0),(zac 2),(zac 1)]) [none,some (false,.int m),some (false,.int b)] (zca (min k (r-a)) c fun i=>g (a+i)) S=.ok (zca (min k (r-a)) (min m (c-b)) fun i j=>g (a+i) (b+j)) S:=by
  rw [zaK (g:=fun d=>match d with | .tup l=>.tup ((l.drop b).take m) | _=>.non)]
  ·simp [zca,zeu,zqr]
  ·intro d hd;simp only [zca,yat,yaI] at hd;obtain ⟨i,hi,rfl⟩:=hd;exact ⟨_,rfl,by simp [zeu,zfC]⟩
 have hl:min k (r-a)<=100000:=by omega
 simp [zjT,zal,zmY,flr,zfC,zrl,e,hl]
theorem zed{l:List D}{n:Nat}{S:Sto}:zaz [.tup l,.int n,.int n] S=.ok (.bl (decide (l.length=n))) S:=by
 rw [zds];congr 3;apply propext;omega
theorem zg7(h1:1<=r)(hr:r<=1000):zcY [flr r c g,flr r' c' h] S=.ok (.bl (decide (r'=r/\c'=c))) S:=by
 by_cases e:r'=r
 ·subst e
  have hz:zhJ (zca r' c g) (zca r' c' h)=(List.range r').map fun i=>.tup [zeu c (g i),zeu c' (h i)]:=by
   apply ya9;intro i
   by_cases hi:i<r'
   ·have:i<(zhJ (zca r' c g) (zca r' c' h)).length:=by rw [zfm];simp;omega
    obtain ⟨x,y,e1,e2,e3⟩:=zgV (yaa this);rw [zcH hi] at e1 e2;cases e1;cases e2;rw [yaa this,e3];simp [hi]
   ·rw [yav (by rw [zfm];simp;omega),yav (by simp;omega)]
  have ec:zbm (.tup [0,1]) zdq (eFn zbU [(zac 0),(zac 1)]) [none,none] (zhJ (zca r' c g) (zca r' c' h)) S=.ok ((List.range r').map fun _=>.bl (decide (c=c'))) S:=by
   rw [hz,zaK (g:=fun _=>.bl (decide (c=c')))]
   ·simp
   ·intro d hd;simp only [yat,yaI] at hd;obtain ⟨i,hi,rfl⟩:=hd;exact ⟨_,rfl,by simp [zeu,zh7]⟩
  have ea:znA [.lst ((List.range r').map fun _=>.bl (decide (c=c')))]=some (.bl (decide (c'=c))):=by
   rw [all_map (p:=fun _=>decide (c=c'))]
   by_cases hc:c=c'
   ·subst hc;simp
   ·have:((List.range r').all fun _=>false)=false:=by
     cases r' with
     | zero=>omega
     | succ n=>simp [ya5]
    simp only [hc,show ¬ c'=c from fun z=>hc z.symm,decide_false,this]
  simp only [List.map_const',yby] at ec ea;simp [zcY,zal,zeO,flr,zed,ec,ea,show r'<=100000 by omega]
 ·simp [zcY,zal,zeO,flr,zed,e]
noncomputable def zd2(g:Z1):D->Bool | .tup [.int i,.int j]=>(g i.toNat j.toNat).isSome | _=>false
def znT(h:1<=r)(hr:r<=100)(hc:c<=100):zcd [flr r c g] S=.ok (.lst ((zbd r c).filter (zd2 g))) S:=by
 have hl:((zbd r c).filter (zd2 g)).length<=100000:=by
  refine yak (yaO _ _) ?_;rw [zbV];have:r*c<=100*100:=ybd hr hc;omega
 have e:zbm (.one 0) (zah zk1 (eFn zam [(zac 1),(zac 0)]) (zag .non)) (zac 0) [none,some (false,flr r c g)] (zbd r c) S=.ok ((zbd r c).filter (zd2 g)) S:=by
  rw [zcz (g:=id) (p:=zd2 g)]
  ·simp
  ·intro d hd;obtain ⟨i,j,hi,hj,rfl⟩:=za0 hd;refine ⟨_,rfl,?_,fun _=>by simp⟩;simp [zbJ hi hj,zd2]
   cases g i j<;>rfl
 simp [zcd,zal,zdd,za9 h hr hc,e,hl]
noncomputable def zht(r c:Nat)(g h:Z1):Bool:=decide (∀i,i<r->∀j,j<c->h i j=none\/g i j=h i j)
def zfc(h1:1<=r)(hr:r<=100)(hc:c<=100):zbw [flr r c g,flr r c h] S=.ok (.bl (zht r c g h)) S:=by
 have hl:((zbd r c).filter (zd2 h)).length<=100000:=by
  refine yak (yaO _ _) ?_;rw [zbV];have:r*c<=100*100:=ybd hr hc;omega
 have e:zbm (.one 0) zdq (zah eqD (eFn zam [(zac 2),(zac 0)]) (eFn zam [(zac 1),(zac 0)])) [none,some (false,flr r c h),some (false,flr r c g)] ((zbd r c).filter (zd2 h)) S=.ok (((zbd r c).filter (zd2 h)).map fun d=>.bl ((fun d=>match d with | .tup [.int i,.int j]=>decide (g i.toNat j.toNat=h i.toNat j.toNat) | _=>true) d)) S:=by
  rw [zaK];intro d hd;obtain ⟨i,j,hi,hj,rfl⟩:=za0 ((ya0.mp hd).1);exact ⟨_,rfl,by simp [zbJ hi hj]⟩
 have ea:(((zbd r c).filter (zd2 h)).all fun d=>match d with | .tup [.int i,.int j]=>decide (g i.toNat j.toNat=h i.toNat j.toNat) | _=>true)=zht r c g h:=by
  rw [ybj];unfold zht;rw [ya1,ybk];constructor
  ·intro H i hi j hj
   cases hh:h i j with
   | none=>exact .inl rfl
   | some x =>
    have:=H (plD i j) (ya0.mpr ⟨zjW hi hj,by simp [zd2,hh]⟩);simp [hh] at this;exact .inr this
  ·intro H d hd;obtain ⟨i,j,hi,hj,rfl⟩:=za0 ((ya0.mp hd).1);have hp:=(ya0.mp hd).2;simp [zd2] at hp
   rcases H i hi j hj with z | z
   ·rw [z] at hp;cases hp
   ·simp [z]
 simp [zbw,zal,zcO,znT h1 hr hc,e,hl,all_map,ea]
noncomputable def zrV(r c pr pc:Nat)(g h:Z1)(i j:Nat):Bool:=decide (i+pr<=r/\j+pc<=c)&&zht pr pc (fun a b=>g (i+a) (j+b)) h
theorem zkT(hr:r<=100)(hc:c<=100)(p1:1<=pr)(p2:pr<=100)(q1:1<=pc)(q2:pc<=100)(hi:i<r)(hj:j<c):zb2 [flr r c g,flr pr pc h,plD i j] S=.ok (.bl (zrV r c pr pc g h i j)) S:=by
 by_cases hw:i+pr<=r/\j+pc<=c
 ·have e1:min pr (r-i)=pr:=by omega
  have e2:min pc (c-j)=pc:=by omega
  simp [zb2,zal,zde,zew p1,zjP (show r<=1000 by omega),e1,e2,zg7 p1 (show pr<=1000 by omega),zfc p1 p2 q2,zrV,hw]
 ·have e:¬ (min pr (r-i)=pr/\min pc (c-j)=pc):=by omega
  simp [zb2,zal,zde,zew p1,zjP (show r<=1000 by omega),zg7 p1 (show pr<=1000 by omega),e,zrV,hw]
noncomputable def zkE(r c pr pc:Nat)(g h:Z1):D->Bool | .tup [.int i,.int j]=>zrV r c pr pc g h i.toNat j.toNat | _=>false
def zi6(h1:1<=r)(hr:r<=100)(hc:c<=100)(p1:1<=pr)(p2:pr<=100)(q1:1<=pc)(q2:pc<=100):zeA [flr r c g,flr pr pc h] S=.ok (.lst ((zbd r c).filter (zkE r c pr pc g h))) S:=by
 have hl:((zbd r c).filter (zkE r c pr pc g h)).length<=100000:=by
  refine yak (yaO _ _) ?_;rw [zbV];have:r*c<=100*100:=ybd hr hc;omega
 have e:zbm (.one 0) (eFn zb2 [(zac 1),(zac 2),(zac 0)]) (zac 0) [none,some (false,flr r c g),some (false,flr pr pc h)] (zbd r c) S=.ok ((zbd r c).filter (zkE r c pr pc g h)) S:=by
  rw [zcz (g:=id) (p:=zkE r c pr pc g h)]
  ·simp
  ·intro d hd;obtain ⟨i,j,hi,hj,rfl⟩:=za0 hd;exact ⟨_,rfl,by simp [zkT hr hc p1 p2 q1 q2 hi hj,zkE],fun _=>by simp⟩
 simp [zeA,zal,zf8,za9 h1 hr hc,e,hl]
theorem zfv{tg:Tg}{α:Type}(mk:List D->α->Env)(g:D->List D)(N:Nat):∀{ds:List D},(∀d∈ds,∀(L:List D) (x:α),L.length+(g d).length<=N->∃ρ1 x',tg.put (mk L x) d=some ρ1/\body ρ1 S=.nx (mk (L++g d) x') S) →
  ∀(L0:List D) (x0:α),L0.length+(ds.flatMap g).length<=N->∃x',zf2 tg body ds (mk L0 x0) S=.nx (mk (L0++ds.flatMap g) x') S
 | [],_,L0,x0,_=>⟨x0,by simp [zf2]⟩
 | d::ds,step,L0,x0,hN=>by
  rw [yaH,yah] at hN;obtain ⟨ρ1,x',e1,e2⟩:=step d yaw L0 x0 (by omega);obtain ⟨x2,e3⟩:=zfv mk g N (ds:=ds) (fun d hd=>step d (yao _ hd)) (L0++g d) x' (by rw [yah];omega);refine ⟨x2,?_⟩;unfold zf2;rw [e1];dsimp only;rw [e2];dsimp only;rw [e3,yaH,ycr]
def zeY{lo hi:Int}:(zat lo hi).length=(hi-lo).toNat:=by unfold zat;simp
theorem zhs{α:Type}{g:α->List D}:∀{ds:List α},(∀d∈ds,(g d).length<=m)->(ds.flatMap g).length<=ds.length*m
 | [],_=>by simp
 | d::ds,h=>by
  have h1:=h d yaw;have h2:=zhs (ds:=ds) fun d hd=>h d (yao _ hd)
  rw [yaH,yah,yai,yb9];omega
theorem znX{rows:List D}{i:Int}(h0:0<=i)(h1:i<rows.length):atI rows i=some (rows.getD i.toNat .non):=by
 rw [zdY h0,yaa (by omega)];simp [List.getD,show i.toNat<rows.length by omega]
theorem zf5{α β:Type}{p:α->Bool}{f:α->β}:∀{ds:List α},(ds.flatMap fun d=>if p d then [f d] else [])=(ds.filter p).map f
 | []=>rfl
 | d::ds=>by
  rw [yaH,zf5 (ds:=ds)]
  cases h:p d<;>simp [h]
theorem zgK{β:Type}{f:Nat->List β}(hn:n<=r)(h:∀i,n<=i->i<r->f i=[]):(List.range r).flatMap f=(List.range n).flatMap f:=by
 induction r with
 | zero=>rw [show n=0 by omega]
 | succ k ih =>
  by_cases e:n=k+1
  ·rw [e]
  ·rw [ya5,ycP,List.flatMap_singleton,h k (by omega) (by omega),yaX];exact ih (by omega) fun i h1 h2=>h i h1 (by omega)
def zkW:(zbd r c).filter p=(List.range r).flatMap fun i=>(List.range c).flatMap fun j=>if p (plD i j) then [plD i j] else []:=by
 unfold zbd;rw [List.filter_flatMap];congr 1;funext i;rw [zf5 (p:=fun j=>p (plD i j)) (f:=fun j=>plD i j),ych];rfl
def zwB(r c pr pc:Nat)(g h:Z1):List D:=(zat 0 ((r:Int)-pr+1)).flatMap fun d=>(zat 0 ((c:Int)-pc+1)).flatMap fun e=>if zkE r c pr pc g h (.tup [d,e]) then [.tup [d,e]] else []
theorem zrs(p1:1<=pr)(q1:1<=pc):zwB r c pr pc g h=(zbd r c).filter (zkE r c pr pc g h):=by
 rw [zkW]
 have hi:∀i j,r<i+pr->zkE r c pr pc g h (plD i j)=false:=by
  intro i j hl;simp [zkE,zrV];omega
 have hj:∀i j,c<j+pc->zkE r c pr pc g h (plD i j)=false:=by
  intro i j hl;simp [zkE,zrV];omega
 have e0:∀n:Int,zat 0 n=(List.range n.toNat).map fun i:Nat=>D.int i:=by intro n;simp [zat]
 unfold zwB;rw [e0,e0,yb2];rw [zgK (n:=((r:Int)-pr+1).toNat) (r:=r) (by omega)]
 ·congr 1;funext i;rw [yb2,zgK (n:=((c:Int)-pc+1).toNat) (r:=c) (by omega)];intro j h1 h2;rw [hj i j (by omega)];rfl
 ·intro i h1 h2;rw [yci];intro j _;rw [hi i j (by omega)];rfl
def zhl(h:d.pl=true)(f:d.fit 9=true):neD d d=some (.bl false):=by
 unfold neD zfq;rw [f,(ziH d d h h).mpr rfl];rfl
structure TOk(ts:Z2):Prop where
 four:∀t∈ts,t.length=4
 le:ts.length<=100
noncomputable def zbf(ts:Z2)(n:Int)(s:Nat):Int:=(ts.getD n.toNat []).getD s 0
theorem zhS{ts:Z2}(ht:TOk ts){n:Int}(h0:0<=n)(h1:n<ts.length):atI (ts.map zad) n=some (.tup ([zbf ts n 0,zbf ts n 1,zbf ts n 2,zbf ts n 3].map D.int)):=by
 rw [zdY h0,yal,yaa (by omega)];have h4:=ht.four _ (yaS (show n.toNat<ts.length by omega))
 have e:ts.getD n.toNat []=ts[n.toNat]:=by rw [yab,yaa (by omega)];rfl
 unfold zbf;rw [e];generalize ts[n.toNat]=t at *
 match t,h4 with
 | [a,b,c,d],_=>rfl
def zec:zaT [.int i] S=.ok (.bl true) S:=by simp [zaT,zal,zdV,zfk]
def zi7:zaT [.non] S=.ok (.bl false) S:=by simp [zaT,zal,zdV,zfk]
def zba(h:∀x,o=some x->0<=x/\x<ts.length):zaE [.tup ts,oD o] S=.ok (.bl o.isSome) S:=by
 cases o with
 | none=>simp [zaE,zal,zcI,oD,zi7]
 | some x=>obtain ⟨h0,h1⟩:=h x rfl;simp [zaE,zal,zcI,oD,zec,h0,h1]
noncomputable def hp1:Fe:=zc6 leD ltD (zag (.int 0)) (zah ixD (zai 1) (zag (.int 0))) (zah ixD (zai 2) (zag (.int 0)))
noncomputable def hp2:Fe:=zc6 leD ltD (zag (.int 0)) (zah ixD (zai 1) (zag (.int 1))) (zah ixD (zai 2) (zag (.int 1)))
noncomputable def hpF:Fs:=(zaf (sFz [1] (sIf (eOr (eUn zd1 (eFn zaz [(zac 1),(zag (.int 2)),(zag (.int 2))])) (eOr (eUn zd1 (eFn zaT [(zah ixD (zai 1) (zag (.int 0)))])) (eUn zd1 (eFn zaT [(zah ixD (zai 1) (zag (.int 1)))])))) (zaf (sFz [] (zaS (zag (.bl false)))) sNx) sNx))
  (zaf (sFz [0] (zbg 2 false (eFn zbS [(zac 0)]))) (zaf (sFz [] (zaS (zhL hp1 hp2))) sNx)))
def zt8:zem=hpF:=rfl
def zc7(h1:1<=r):zbi [flr r c g,.tup [.int i,.int j]] S=.ok (.bl (decide ((0<=i/\i<r)/\0<=j/\j<c))) S:=by
 have ht:zaz [.tup [.int i,.int j],.int 2,.int 2] S=.ok (.bl true) S:=by rw [zds];simp
 have sz:=zew (c:=c) (g:=g) (S:=S) h1
 have t1:∀x,hp1 [x,some (false,.tup [.int i,.int j]),some (false,.tup [.int r,.int c])] S=.ok (.bl (decide (0<=i/\i<r))) S:=fun x=>by
  by_cases a:0<=i<;>simp [hp1,a]
 have t2:∀x,hp2 [x,some (false,.tup [.int i,.int j]),some (false,.tup [.int r,.int c])] S=.ok (.bl (decide (0<=j/\j<c))) S:=fun x=>by
  by_cases a:0<=j<;>simp [hp2,a]
 rw [Bool.decide_and];generalize decide (0<=i/\i<r)=b1 at *;generalize decide (0<=j/\j<c)=b2 at *;generalize flr r c g=fl at *;simp only [zbi,zal,zt8]
 cases b1<;>simp [hpF,ht,zec,sz,t1,t2]
noncomputable def InT(ts:Z2)(g:Z1):Prop:=∀i j x,g i j=some x->0<=x/\x<ts.length
noncomputable def zaI(ts:Z2)(r c:Nat)(g:Z1)(i j s:Nat):Option Int:=if i<r/\j<c then (g i j).map fun x=>zbf ts x s else none
theorem zfp{ts:Z2}{r c:Nat}{g:Z1}{i j s:Nat}{S:Sto}(ht:TOk ts)(hg:InT ts g)(h1:1<=r)(hs:s<4):zaU [.tup (ts.map zad),flr r c g,plD i j,.int s] S=.ok (oD (zaI ts r c g i j s)) S:=by
 unfold zaI
 by_cases h:i<r/\j<c
 ·have hp:zbi [flr r c g,plD i j] S=.ok (.bl true) S:=by rw [zc7 h1];congr 3;simp;omega
  have hn:=zbJ (g:=g) (S:=S) h.1 h.2;have hh:=zba (ts:=ts.map zad) (o:=g i j) (S:=S) (fun x hx=>by simpa using hg i j x hx);rw [if_pos h]
  cases hx:g i j with
  | none =>
   rw [hx] at hn hh;simp only [oD] at hn hh;simp [zaU,zal,zdD,hp,hn,hh,oD]
  | some x =>
   obtain ⟨x0,x1⟩:=hg i j x hx;rw [hx] at hn hh;have e:=zhS ht x0 x1
   have es:atI ([zbf ts x 0,zbf ts x 1,zbf ts x 2,zbf ts x 3].map D.int) (s:Int)=some (.int (zbf ts x s)):=by
    rw [zci]
    match s,hs with
    | 0,_=>rfl
    | 1,_=>rfl
    | 2,_=>rfl
    | 3,_=>rfl
   simp only [oD] at hn hh;simp only [yay,List.map_nil] at e es;simp [zaU,zal,zdD,hp,hn,hh,oD,e,es]
 ·have hp:zbi [flr r c g,plD i j] S=.ok (.bl false) S:=by rw [zc7 h1];congr 3;simp;omega
  rw [if_neg h];simp [zaU,zal,zdD,hp,oD]
theorem zjR(ht:TOk ts)(hg:InT ts g)(h1:1<=r):zbx [.tup (ts.map zad),flr r c g,plD i j] S=.ok (.tup [oD (zaI ts r c g i j 1),oD (zaI ts r c g i (j+1) 3)]) S:=by
 have e1:zaU [.tup (ts.map zad),flr r c g,.tup [.int i,.int j],.int 1] S=_:=zfp (i:=i) (j:=j) (s:=1) (S:=S) (c:=c) ht hg h1 (by omega);have e2:zaU [.tup (ts.map zad),flr r c g,.tup [.int i,.int ((j:Int)+1)],.int 3] S=_:=zfp (i:=i) (j:=j+1) (s:=3) (S:=S) (c:=c) ht hg h1 (by omega);simp [zbx,zal,zcP,plD,e1,e2]
theorem zh6(ht:TOk ts)(hg:InT ts g)(h1:1<=r):zbj [.tup (ts.map zad),flr r c g,plD i j] S=.ok (.tup [oD (zaI ts r c g i j 2),oD (zaI ts r c g (i+1) j 0)]) S:=by
 have e1:zaU [.tup (ts.map zad),flr r c g,.tup [.int i,.int j],.int 2] S=_:=zfp (i:=i) (j:=j) (s:=2) (S:=S) (c:=c) ht hg h1 (by omega);have e2:zaU [.tup (ts.map zad),flr r c g,.tup [.int ((i:Int)+1),.int j],.int 0] S=_:=zfp (i:=i+1) (j:=j) (s:=0) (S:=S) (c:=c) ht hg h1 (by omega);simp [zbj,zal,zcv,plD,e1,e2]
noncomputable def cl2:Option Int->Option Int->Bool | some a,some b=>!decide (a=b) | _,_=>false
def zic:zc0 [.tup [oD a,oD b]] S=.ok (.bl (cl2 a b)) S:=by
 cases a<;>cases b
 all_goals simp [zc0,zal,ze8,oD,cl2,zll,zkO,zj7,zfq,D.py,PyData.eqv]
noncomputable def clD(d:D)(s:Str):D:=.tup [d,.str s]
def clG(ts:Z2)(r c:Nat)(g:Z1):D->List D
 | .tup [.int i,.int j]=>(if cl2 (zaI ts r c g i.toNat j.toNat 1) (zaI ts r c g i.toNat (j.toNat+1) 3) then [clD (.tup [.int i,.int j]) "east"] else [])++(if cl2 (zaI ts r c g i.toNat j.toNat 2) (zaI ts r c g (i.toNat+1) j.toNat 0) then [clD (.tup [.int i,.int j]) "south"] else [])
 | _=>[]
def clL(ts:Z2)(r c:Nat)(g:Z1):List D:=(zbd r c).flatMap (clG ts r c g)
def zrD:(clG ts r c g d).length<=2:=by
 unfold clG;split
 ·rw [yah];split<;>split<;>simp
 ·simp
theorem znb(hr:r<=100)(hc:c<=100):(clL ts r c g).length<=20000:=by
 refine yak (zhs fun d _=>zrD) ?_;rw [zbV];have:r*c<=100*100:=ybd hr hc;omega
theorem zfH(ht:TOk ts)(hg:InT ts g)(h1:1<=r)(hr:r<=100)(hc:c<=100):zdv [.tup (ts.map zad),flr r c g] S=.ok (.lst (clL ts r c g)) S:=by
 obtain ⟨x',e⟩:=zfv (tg:=.one 3) (body:=zes) (S:=S) (fun L (x:Option (Bool×D))=>[some (false,.tup (ts.map zad)),some (false,flr r c g),some (true,.lst L),x]) (clG ts r c g) 50000 (ds:=zbd r c) (by
  intro d hd L x hL;obtain ⟨i,j,hi,hj,rfl⟩:=za0 hd;refine ⟨_,some (false,plD i j),rfl,?_⟩;have e1:=zjR (i:=i) (j:=j) (S:=S) (c:=c) ht hg h1;have e2:=zh6 (i:=i) (j:=j) (S:=S) (c:=c) ht hg h1
  have hl:L.length<=100000:=by omega
  have hl1:L.length+1<=100000:=by omega
  simp only [plD] at e1 e2
  cases a1:cl2 (zaI ts r c g i j 1) (zaI ts r c g i (j+1) 3)<;>cases a2:cl2 (zaI ts r c g i j 2) (zaI ts r c g (i+1) j 0)<;>simp [zes,plD,e1,e2,zic,a1,a2,clG,clD,hl,hl1]) [] none (by have:=znb (ts:=ts) (g:=g) hr hc;unfold clL at this;simp only [ycQ];omega)
 simp at e;simp [zdv,zal,zgd,za9 h1 hr hc,e,clL]
noncomputable def ziD(r c:Nat)(g:Z1):Bool:=decide (∀i,i<r->∀j,j<c->(g i j).isSome=true)
def zh8(ht:TOk ts)(hg:InT ts g)(h1:1<=r)(hr:r<=100)(hc:c<=100):zck [.tup (ts.map zad),flr r c g] S=.ok (.bl (ziD r c g&&decide (clL ts r c g=[]))) S:=by
 have e:zbm (.one 0) zdq (eFn zaE [(zac 2),(eFn zam [(zac 1),(zac 0)])]) [none,some (false,flr r c g),some (false,.tup (ts.map zad))] (zbd r c) S=.ok ((zbd r c).map fun d=>.bl (zd2 g d)) S:=by
  rw [zaK];intro d hd;obtain ⟨i,j,hi,hj,rfl⟩:=za0 hd;exact ⟨_,rfl,by simp [zbJ hi hj,zba (ts:=ts.map zad) (o:=g i j) (fun x hx=>by simpa using hg i j x hx),zd2]⟩
 have ea:(zbd r c).all (zd2 g)=ziD r c g:=by
  rw [ybj];unfold ziD;rw [ya1,ybk];constructor
  ·intro H i hi j hj;simpa [zd2] using H (plD i j) (zjW hi hj)
  ·intro H d hd;obtain ⟨i,j,hi,hj,rfl⟩:=za0 hd;simpa [zd2] using H i hi j hj
 have hl:(zbd r c).length<=100000:=by
  rw [zbV];have:r*c<=100*100:=ybd hr hc;omega
 have hz:decide ((clL ts r c g).length=0)=decide (clL ts r c g=[]):=by rw [ybH];exact ycj
 cases hf:ziD r c g
 ·simp [zck,zal,zdW,za9 h1 hr hc,e,hl,all_map,ea,hf]
 ·simp [zck,zal,zdW,za9 h1 hr hc,e,hl,all_map,ea,hf,zfH ht hg h1 hr hc]
theorem znM(q:Int)(h0:0<=q)(h1:q<10):∃r c:Nat,1<=r/\r<=3/\1<=c/\c<=4/\r*c<=6/\atI [D.tup [.int 1,.int 1],.tup [.int 1,.int 2],.tup [.int 2,.int 1],.tup [.int 2,.int 2],.tup [.int 2,.int 2],.tup [.int 1,.int 4],.tup [.int 2,.int 3],.tup [.int 3,.int 2],.tup [.int 3,.int 1],.tup [.int 2,.int 3]] q=some (.tup [.int r,.int c]):=by
 have:q=0\/q=1\/q=2\/q=3\/q=4\/q=5\/q=6\/q=7\/q=8\/q=9:=by omega
 rcases this with rfl | rfl | rfl | rfl | rfl | rfl | rfl | rfl | rfl | rfl
 ·exact ⟨1,1,by omega,by omega,by omega,by omega,by omega,rfl⟩
 ·exact ⟨1,2,by omega,by omega,by omega,by omega,by omega,rfl⟩
 ·exact ⟨2,1,by omega,by omega,by omega,by omega,by omega,rfl⟩
 ·exact ⟨2,2,by omega,by omega,by omega,by omega,by omega,rfl⟩
 ·exact ⟨2,2,by omega,by omega,by omega,by omega,by omega,rfl⟩
 ·exact ⟨1,4,by omega,by omega,by omega,by omega,by omega,rfl⟩
 ·exact ⟨2,3,by omega,by omega,by omega,by omega,by omega,rfl⟩
 ·exact ⟨3,2,by omega,by omega,by omega,by omega,by omega,rfl⟩
 ·exact ⟨3,1,by omega,by omega,by omega,by omega,by omega,rfl⟩
 ·exact ⟨2,3,by omega,by omega,by omega,by omega,by omega,rfl⟩
theorem zlR(ha:0<=at'):∃r c:Nat,1<=r/\r<=3/\1<=c/\c<=4/\r*c<=6/\zcC [.scr l,.int at'] S=.ok (.tup [.int r,.int c]) S:=by
 have p:=zbR (l:=l) (S:=S) ha (show (0:Int)<10 by omega);have n:=zb4 l at' (many:=10) (by omega);generalize zb9 l at' 10=q at *;obtain ⟨r,c,h1,h2,h3,h4,h5,e⟩:=znM q n.1 n.2;refine ⟨r,c,h1,h2,h3,h4,h5,?_⟩;simp [zcC,zal,zdF,p,e]
noncomputable def zi0(ts:Z2)(c:Nat)(t:List Int)(n:Int):Bool:=decide ((0<t.length % c->zbf ts (t.getLastD 0) 1=zbf ts n 3)/\(c<=t.length->zbf ts (t.getD (t.length-c) 0) 2=zbf ts n 0))
noncomputable def InR(ts:Z2)(t:List Int):Prop:=∀x∈t,0<=x/\x<ts.length
def zox{t:List Int}(h:t≠[]):t.getLastD 0∈t:=by
 cases t with
 | nil=>exact absurd rfl h
 | cons a t=>rw [List.getLastD_cons];exact List.getLastD_mem_cons
theorem zke{t:List Int}:(t++[n]).getD m 0=if m<t.length then t.getD m 0 else if m=t.length then n else 0:=by
 simp only [yab]
 by_cases h:m<t.length
 ·rw [yax h,if_pos h]
 ·rw [yap (by omega),if_neg h]
  by_cases e:m=t.length
  ·subst e;simp
  ·rw [if_neg e,yav (by simp;omega)];rfl
noncomputable def unI:D->Int | .int i=>i | _=>0
noncomputable def zzq:D->List D | .tup l=>l | _=>[]
def zlW{n:Nat}{f:D->D}:(zat 0 (n:Int)).map f=(List.range n).map fun k:Nat=>f (.int k):=by
 simp [zat,yaK,Function.comp_def]
noncomputable def zcN:Fs :=
  (zaf (sFz [0,2,1] (zaS (zaq zbI [(zb1 1 (.one 0) (zaB (zac 0)) zdq (eIf (zah eqD (zai 0) (zai 2)) (zac 1) (zac 0)) [2,1])])))
  sNx)
noncomputable def zbv:List S2.D->Sto->Out S2.D:=zbh 3 false zcN
noncomputable def ze4:Fs :=
  (zaf (sFz [0,3] (sIf (eUn zd1 (eFn zbT [(zac 0),(zac 3)])) (zaf (sFz [] (sRz "NoTile" [(zag (.str "the set has no such number"))])) sNx) sNx))
  (zaf (sFz [1,3,2] (zaS (zaq zbI [(zb1 1 (.one 0) (zaB (zac 1)) zdq (eFn zbv [(zac 0),(zac 2),(zac 1)]) [3,2])])))
  sNx))
noncomputable def zcX:List S2.D->Sto->Out S2.D:=zbh 4 false ze4
noncomputable def zen:Fs :=
  (zaf (sFz [1,2] (zbg 4 false (eFn zcV [(zac 1),(zac 2)])))
  (zaf (sFz [1,3] (zbg 5 false (eFn zcV [(zac 1),(zac 3)])))
  (zaf (sFz [1,2,5,3,4] (zaS (eFn zbo [(eFn zbo [(zac 1),(zac 2),(zac 5)]),(zac 3),(zac 4)])))
  sNx)))
noncomputable def zc8:List S2.D->Sto->Out S2.D:=zbh 6 false zen
theorem zmM:∀ns:List Int,zcu (ns.map D.int)=some ns
 | []=>rfl
 | n::ns=>by
  show (zcu (ns.map D.int)).map _=_;rw [zmM ns];rfl
def zqt:zfq (.int a) (.int b)=decide (a=b):=by
 by_cases h:a=b<;>simp [zfq,D.py,PyData.eqv,h]
def zor(h:∀x,o=some x->0<=x/\x<ts.length):zbT [.tup ts,oD o] S=.ok (.bl true) S:=by
 have e:=zba (ts:=ts) (o:=o) (S:=S) h
 cases o with
 | none=>simp [zbT,zal,zc4,oD]
 | some x =>
  simp only [oD] at e;simp [zbT,zal,zc4,oD,e]
noncomputable def rep(a b x:Option Int):Option Int:=if x=a then b else x
noncomputable abbrev repG(g:Z1)(a b:Option Int):Nat->Nat->Option Int:=fun i j=>rep a b (g i j)
def zsU(a b:Option Int):D->D | .int n=>oD (rep a b (some n)) | _=>oD (rep a b none)
def zpj:zsU a b (oD x)=oD (rep a b x):=by cases x<;>rfl
def zhb:(zcS c g).map (zsU a b)=zcS c fun j=>rep a b (g j):=by
 unfold zcS;rw [yaK];congr 1;funext j;exact zpj
def zoW:zbm (.one 0) zdq (eIf (zah eqD (zai 0) (zai 2)) (zac 1) (zac 0)) [none,some (false,oD b),some (false,oD a)] (zcS c g) S=.ok (zcS c fun j=>rep a b (g j)) S:=by
 rw [zaK (g:=zsU a b),zhb];intro d hd;obtain ⟨j,_,rfl⟩:=yat.mp hd;refine ⟨_,rfl,?_⟩;rw [zpj]
 by_cases e:g j=a
 ·simp [e,rep]
 ·simp [e,rep]
def zfj(hc:c<=100):zbv [zeu c g,oD a,oD b] S=.ok (zeu c fun j=>rep a b (g j)) S:=by
 have e:=zoW (a:=a) (b:=b) (c:=c) (g:=g) (S:=S);simp [zbv,zal,zcN,zeu,e,show c<=100000 by omega]
def zh9(hb:∀x,b=some x->0<=x/\x<ts.length)(hr:r<=100)(hc:c<=100):zcX [.tup ts,flr r c g,oD a,oD b] S=.ok (flr r c (repG g a b)) S:=by
 have e:zbm (.one 0) zdq (eFn zbv [(zac 0),(zac 2),(zac 1)]) [none,some (false,oD b),some (false,oD a)] (zca r c g) S=.ok (zca r c (repG g a b)) S:=by
  rw [zaK (g:=fun d=>match d with | .tup l=>.tup (l.map (zsU a b)) | _=>.non)]
  ·unfold zca zeu;rw [yaK];congr 2;funext i;show D.tup _=_;rw [zhb]
  ·intro d hd;obtain ⟨i,_,rfl⟩:=yat.mp hd;refine ⟨_,rfl,?_⟩;show _=Out.ok (D.tup ((zcS c (g i)).map (zsU a b))) S;rw [zhb];have q:=zfj (a:=a) (b:=b) (g:=g i) (S:=S) hc;simp only [zeu] at q ⊢;simp [q]
 have hl:r<=100000:=by omega
 simp [zcX,zal,ze4,zor hb,flr,e,hl]
def zsS:(zeu c f).pl=true:=by
 show D.pls (zcS c f)=true;rw [D.pls_iff];intro d hd;obtain ⟨j,_,rfl⟩:=yat.mp hd
 cases f j<;>rfl
def zqo:(zeu c f).fit (n+1)=true:=by
 show D.fits n (zcS c f)=true;rw [D.fits_iff];intro d hd;obtain ⟨j,_,rfl⟩:=yat.mp hd
 cases f j<;>simp [oD]
def zue:(flr r c g).pl=true:=by
 show D.pls (zca r c g)=true;rw [D.pls_iff];intro d hd;obtain ⟨j,_,rfl⟩:=yat.mp hd;exact zsS
def zrm:(flr r c g).fit (n+2)=true:=by
 show D.fits (n+1) (zca r c g)=true;rw [D.fits_iff];intro d hd;obtain ⟨j,_,rfl⟩:=yat.mp hd;exact zqo
def zqW:neD (flr r c g) (flr r c g)=some (.bl false):=zhl zue zrm
noncomputable def ze6:Fs :=
  (zaf (sFz [1] (sIf (eUn zd1 (eFn zaz [(zac 1),(zaq zcT [(zai 0)]),(zaq zcT [(zai 0)])])) (zaf (sFz [] (zaS (zag (.bl false)))) sNx) sNx))
  (zaf (sFz [1,0,1] (zaS (zhL (zaq znA [(zb1 1 (.one 0) (zaB (zac 1)) zdq (eFn zaE [(zac 1),(zac 0)]) [0])]) (zah eqD (eUn zdA (zac 1)) (zaq zcT [(zai 1)])))))
  sNx))
noncomputable def zcl:List S2.D->Sto->Out S2.D:=zbh 2 false ze6
noncomputable def zb5:Fs :=
  (zaf (sFz [0,1] (sIf (eUn zd1 (eFn zcl [(zac 0),(zac 1)])) (zaf (sFz [] (sRz "NoTile" [(zag (.str "this is no order of the set's numbers"))])) sNx) sNx))
  sNx)
noncomputable def zaw:List S2.D->Sto->Out S2.D:=zbh 2 false zb5
noncomputable def zhv:Fs :=
  (zaf (sFz [0,1] (znS (eFn zaw [(zac 0),(zac 1)])))
  (zaf (sFz [1,0] (zaS (zaq zbI [(zb1 1 (.one 0) (zaB (zac 1)) zdq (zah ixD (zai 1) (zai 0)) [0])])))
  sNx))
noncomputable def zeB:List S2.D->Sto->Out S2.D:=zbh 2 false zhv
noncomputable def zhw:Fs :=
  (zaf (sFz [0,1] (zaS (zaq zbI [(zb1 1 (.one 0) (zaB (zac 0)) zdq (ziM 1 (zac 0) (zac 0)) [1])])))
  sNx)
noncomputable def zeC:List S2.D->Sto->Out S2.D:=zbh 2 false zhw
noncomputable def zdJ:Fs :=
  (zaf (sFz [4] (zi5 3 (zac 5) (zac 4))) sNx)
noncomputable def ze7:Fs :=
  (zaf (sFz [0,2] (znS (eFn zaw [(zac 0),(zac 2)])))
  (zaf (sFz [] (zbg 3 true zoO))
  (zaf (sFz [2] (zhK (.tup [4,5]) (zm2 (zac 2)) zdJ))
  (zaf (sFz [1,3] (zaS (zaq zbI [(zb1 1 (.one 0) (zaB (zac 1)) zdq (eFn zeC [(zac 0),(zac 1)]) [3])])))
  sNx))))
noncomputable def zbK:List S2.D->Sto->Out S2.D:=zbh 6 false ze7
noncomputable def zgk(n:Nat):List Int:=(List.range n).map fun (i:Nat)=>(i:Int)
theorem zol:x∈zgk n↔0<=x/\x<n:=by
 unfold zgk;rw [yat];constructor
 ·rintro ⟨i,hi,rfl⟩;rw [yaI] at hi;omega
 ·intro h;exact ⟨x.toNat,yaI.mpr (by omega),by omega⟩
def zfs:(zgk n).length=n:=by simp [zgk]
def zj0(h:k<n):(zgk n)[k]?=some (k:Int):=by simp [zgk,h]
theorem zqS:(zgk n).Nodup:=by
 unfold zgk List.Nodup;rw [List.pairwise_map];exact List.Pairwise.imp (fun {a b} h e=>h (by omega)) List.nodup_range
noncomputable def Ord(n:Nat)(os:List Int):Prop:=os.Perm (zgk n)
def Ord.len{os:List Int}(h:Ord n os):os.length=n:=h.length_eq.trans zfs
def Ord.mem{os:List Int}(h:Ord n os):x∈os↔0<=x/\x<n:=h.mem_iff.trans zol
def Ord.nd{os:List Int}(h:Ord n os):os.Nodup:=h.nodup_iff.mpr zqS
noncomputable def inv(os:List Int)(x:Int):Int:=(os.idxOf x:Nat)
theorem Ord.inv_in{n:Nat}{os:List Int}(h:Ord n os){x:Int}(hx:0<=x/\x<n):0<=inv os x/\inv os x<n:=by
 have:=List.idxOf_lt_length_of_mem (h.mem.mpr hx);rw [h.len] at this;unfold inv;omega
def Ord.get_inv{n:Nat}{os:List Int}(h:Ord n os){x:Int}(hx:0<=x/\x<n):os[(inv os x).toNat]?=some x:=by
 have hl:=List.idxOf_lt_length_of_mem (h.mem.mpr hx);show os[((os.idxOf x:Nat):Int).toNat]?=_;rw [yaB,yaa hl,List.getElem_idxOf hl]
theorem zkd:∀{os:List Int},os.Nodup->∀{k:Nat} {x:Int},os[k]?=some x->os.idxOf x=k
 | [],_,k,x,h=>by simp at h
 | a::os,hn,0,x,h=>by cases h;exact List.idxOf_cons_self
 | a::os,hn,k+1,x,h=>by
  have h':os[k]?=some x:=h;obtain ⟨h1,h2⟩:=ybz.mp hn;have hm:x∈os:=ybL h';have hne:a≠x:=fun e=>h1 (e ▸ hm)
  have hb:(a == x)=false:=yaW.mpr hne;rw [List.idxOf_cons,hb,zkd h2 h'];rfl
def Ord.inv_get{os:List Int}(h:Ord n os){k:Nat}(hk:os[k]?=some x):inv os x=(k:Int):=by
 unfold inv;rw [zkd h.nd hk]
def Ord.inv_inj{n:Nat}{os:List Int}(h:Ord n os){x y:Int}(hx:0<=x/\x<n)(hy:0<=y/\y<n)(e:inv os x=inv os y):x=y:=by
 have a:=h.get_inv hx;have b:=h.get_inv hy;rw [e,b] at a;exact (Option.some.inj a).symm
def con(n:Nat)(os:List Int):List Int:=(zgk n).map (inv os)
def zrz{os:List Int}{k:Nat}(h:k<n):(con n os)[k]?=some (inv os k):=by
 unfold con;rw [yal,zj0 h];rfl
theorem zmv{os:List Int}(h:Ord n os):os.map (inv os)=zgk n:=by
 apply ya9;intro k;rw [yal]
 by_cases hk:k<n
 ·have hl:k<os.length:=by rw [h.len];exact hk
  rw [yaa hl,zj0 hk];show some (inv os _)=_;rw [h.inv_get (yaa hl)]
 ·rw [yav (by rw [h.len];omega),yav (by rw [zfs];omega)];rfl
theorem Ord.con{os:List Int}(h:Ord n os):Ord n (con n os):=by
 have p:((zgk n).map (inv os)).Perm (os.map (inv os)):=(List.Perm.map _ h).symm;rwa [zmv h] at p
theorem Ord.con_inv{n:Nat}{os:List Int}(h:Ord n os){x:Int}(hx:0<=x/\x<n):inv (S2.con n os) (inv os x)=x:=by
 have e:(S2.con n os)[x.toNat]?=some (inv os x):=by
  rw [zrz (by omega),show ((x.toNat:Nat):Int)=x by omega]
 rw [h.con.inv_get e];omega
noncomputable def newT(ts:Z2)(os:List Int):List (List Int):=os.map fun o=>ts.getD o.toNat []
def zcs{ts:Z2}{os:List Int}(h:Ord ts.length os):(newT ts os).length=ts.length:=by unfold newT;rw [yae,h.len]
def zqU{ts:Z2}{os:List Int}(h:Ord ts.length os){x:Int}(hx:0<=x/\x<ts.length):(newT ts os).getD (inv os x).toNat []=ts.getD x.toNat []:=by
 unfold newT;rw [yab,yal,h.get_inv hx];rfl
def zdy{ts:Z2}{os:List Int}(h:Ord ts.length os){x:Int}(hx:0<=x/\x<ts.length)(s:Nat):zbf (newT ts os) (inv os x) s=zbf ts x s:=by
 unfold zbf;rw [zqU h hx]
theorem zqT{ts:Z2}{os:List Int}(h:Ord ts.length os)(ht:t∈newT ts os):t∈ts:=by
 obtain ⟨o,ho,rfl⟩:=yat.mp ht;have:=h.mem.mp ho;rw [yab,yaa (by omega)];exact yaS _
def mvG(os:List Int)(g:Z1):Nat->Nat->Option Int:=fun i j=>(g i j).map (inv os)
def zoo{ts:Z2}{os:List Int}(h:Ord ts.length os)(hg:InT ts g):InT (newT ts os) (mvG os g):=by
 intro i j x e;unfold mvG at e;obtain ⟨y,h1,h2⟩:=Option.map_eq_some_iff.mp e;rw [zcs h,<-h2];exact h.inv_in (hg i j y h1)
def zqX{ts:Z2}{os:List Int}(h:Ord ts.length os)(hg:InT ts g):mvG (con ts.length os) (mvG os g)=g:=by
 funext i j;unfold mvG
 cases e:g i j with
 | none=>rfl
 | some x=>show some (inv _ (inv os x))=_;rw [h.con_inv (hg i j x e)]
theorem znd{os:List Int}(h:Ord n os)(h8:n<=8):(ST.zgg os).length=os.length:=by
 have p:(ST.zgg os).Perm os:=by
  rw [List.perm_ext_iff_of_nodup (ST.zhW ST.ziQ) h.nd];intro x;rw [ST.ziu];exact ⟨fun z=>z.2,fun z=>⟨by have:=h.mem.mp z;omega,z⟩⟩
 exact p.length_eq
def zk5{os:List Int}(h:Ord n os)(h8:n<=8):zdA (zad os)=some (.int (os.length:Nat)):=by
 show (zcu (os.map D.int)).bind _=_;rw [zmM];show (if _ then _ else _)=_;rw [if_pos (ycC.mpr ⟨ya1.mpr fun x hx=>yaD (by have:=h.mem.mp hx;omega),yaD (by rw [h.len];omega)⟩),znd h h8]
def zib{ts:Z2}{os:List Int}(h:Ord ts.length os)(h8:ts.length<=8):zcl [.tup (ts.map zad),zad os] S=.ok (.bl true) S:=by
 have e1:=zed (l:=os.map D.int) (n:=ts.length) (S:=S)
 have e2:zbm (.one 0) zdq (eFn zaE [(zac 1),(zac 0)]) [none,some (false,.tup (ts.map zad))] (os.map D.int) S=.ok (os.map fun x=>D.bl true) S:=by
  rw [zaK (g:=fun _=>D.bl true),yaK];· rfl
  intro d hd;obtain ⟨x,hx,rfl⟩:=yat.mp hd;refine ⟨_,rfl,?_⟩
  have hb:∀y,some x=some y->0<=y/\y<((ts.map zad).length:Int):=fun y e=>by cases e;rw [yae];exact h.mem.mp hx
  have q:=zba (ts:=ts.map zad) (o:=some x) (S:=S) hb;simp only [oD] at q;simp [q]
 have e3:znA [.lst (os.map fun x=>D.bl true)]=some (.bl true):=by
  rw [all_map (p:=fun _=>true)];simp
 have e4:zdA (.tup (os.map D.int))=some (.int (os.length:Nat)):=zk5 h h8;have hl:=h.len;show zcl [.tup (ts.map zad),.tup (os.map D.int)] S=_;simp [zcl,zal,ze6,e1,e2,e3,e4,hl,show ts.length<=100000 by omega]
def zgv{ts:Z2}{os:List Int}(h:Ord ts.length os)(h8:ts.length<=8):zaw [.tup (ts.map zad),zad os] S=.ok .non S:=by
 have e:zcl [.tup (ts.map zad),.tup (os.map D.int)] S=.ok (.bl true) S:=zib (S:=S) h h8;show zaw [.tup (ts.map zad),.tup (os.map D.int)] S=_;simp [zaw,zal,zb5,e]
def zkU{ts:Z2}{os:List Int}(h:Ord ts.length os)(h8:ts.length<=8):zeB [.tup (ts.map zad),zad os] S=.ok (.tup ((newT ts os).map zad)) S:=by
 have e:zaw [.tup (ts.map zad),.tup (os.map D.int)] S=.ok .non S:=zgv (S:=S) h h8
 have e2:zbm (.one 0) zdq (zah ixD (zai 1) (zai 0)) [none,some (false,.tup (ts.map zad))] (os.map D.int) S=.ok ((newT ts os).map zad) S:=by
  rw [zaK (g:=fun d=>match d with | .int o=>zad (ts.getD o.toNat []) | _=>.non)]
  ·unfold newT;rw [yaK,yaK];rfl
  ·intro d hd;obtain ⟨x,hx,rfl⟩:=yat.mp hd;have hb:=h.mem.mp hx
   have ea:atI (ts.map zad) x=some (zad (ts.getD x.toNat [])):=by
    rw [znX hb.1 (by rw [yae];exact hb.2)];rw [yab,yal,yab,yaa (by omega)];rfl
   exact ⟨_,rfl,by simp [ea]⟩
 have hl:=h.len;have hn:=zcs h;show zeB [.tup (ts.map zad),.tup (os.map D.int)] S=_;simp [zeB,zal,zhv,e,e2,hl,hn,show ts.length<=100000 by omega]
noncomputable def zp(os:List Int)(k:Nat):List (Option Int×Int):=(os.take k).zipIdx.map fun p=>(some p.1,(p.2:Int))
def zr5{os:List Int}{k:Nat}:(zp os k).length<=os.length:=by
 unfold zp;rw [yae,List.length_zipIdx,ya6];exact Nat.min_le_right _ _
def zr4{os:List Int}(hn:os.Nodup){k:Nat}(h:os[k]?=some x):L2.zpm (zp os k) (some x) (k:Int)=zp os (k+1):=by
 have hk:k<os.length:=(yan.mp h).1
 have ht:os.take (k+1)=os.take k++[x]:=by
  rw [yc6,h];rfl
 have hz:zp os (k+1)=zp os k++[(some x,(k:Int))]:=by
  unfold zp;rw [ht,List.zipIdx_append,ybV];simp [ya6,ybs (yb7 hk)]
 have hnot:((zp os k).any fun p=>decide (p.1=some x))=false:=by
  rw [List.any_eq_false];intro p hp;unfold zp at hp;obtain ⟨q,hq,rfl⟩:=yat.mp hp
  have hm:q.1∈os.take k:=by
   have:=List.mem_zipIdx hq;rw [this.2.2];exact yaS _
  simp only [ybh,Option.some.injEq];intro e;rw [e] at hm;have hnd:(os.take (k+1)).Nodup:=List.Nodup.sublist (List.take_sublist _ _) hn;rw [ht] at hnd;have:=(yc7.mp hnd).2.2 x hm x (by simp);exact this rfl
 unfold L2.zpm;rw [hnot,hz];rfl
def zmx{os:List Int}:L2.zeL (zp os os.length) none=none:=by
 unfold L2.zeL;rw [Option.map_eq_none_iff,List.find?_eq_none];intro p hp;unfold zp at hp;obtain ⟨q,_,rfl⟩:=yat.mp hp;simp
theorem zkn:∀(os:List Int) (a:Nat) (x:Int),x∈os->((os.zipIdx a).map fun p=>(some p.1,(p.2:Int))).find? (fun p=>decide (p.1=some x))=some (some x,((a+os.idxOf x:Nat):Int))
 | [],_,_,h=>by cases h
 | y::os,a,x,h=>by
  rw [List.zipIdx_cons,yay,ybU]
  by_cases e:y=x
  ·subst e;rw [show (decide ((some y,(a:Int)).1=some y))=true from yaD rfl];rw [List.idxOf_cons_self];rfl
  ·rw [show (decide ((some y,(a:Int)).1=some x))=false from yaJ (fun z=>e (Option.some.inj z))]
   have hm:x∈os:=by
    rcases yaA.mp h with z | z
    ·exact absurd z.symm e
    ·exact z
   have hb:(y == x)=false:=yaW.mpr e;dsimp only;rw [zkn os (a+1) x hm,List.idxOf_cons,hb];congr 2;show ((a+1+os.idxOf x:Nat):Int)=((a+(os.idxOf x+1):Nat):Int);omega
def zmw{os:List Int}(h:x∈os):L2.zeL (zp os os.length) (some x)=some (inv os x):=by
 unfold L2.zeL zp;rw [List.take_length,zkn os 0 x h];show some _=some _;unfold inv;rw [yc1]
def mvX(os:List Int):D->D | .int x=>.int (inv os x) | _=>.non
def zv3{os:List Int}{o:Option Int}:mvX os (oD o)=oD (o.map (inv os)):=by cases o<;>rfl
def zjf{os:List Int}{g:Nat->Option Int}:(zcS c g).map (mvX os)=zcS c fun j=>(g j).map (inv os):=by
 unfold zcS;rw [yaK];congr 1;funext j;exact zv3
def zkV{os:List Int}{g:Nat->Option Int}(h:Ord n os)(hg:∀j x,g j=some x->0<=x/\x<n)(hc:c<=100):zeC [zeu c g,zgQ (zp os os.length)] S=.ok (zeu c fun j=>(g j).map (inv os)) S:=by
 have e:zbm (.one 0) zdq (ziM 1 (zac 0) (zac 0)) [none,some (false,zgQ (zp os os.length))] (zcS c g) S=.ok (zcS c fun j=>(g j).map (inv os)) S:=by
  rw [zaK (g:=mvX os),zjf]
  ·intro d hd;obtain ⟨j,_,rfl⟩:=yat.mp hd
   cases e:g j with
   | none =>
    refine ⟨_,rfl,?_⟩;rw [zpD (ps:=zp os os.length) (o:=false) (k:=.non) (z:=.non) (j:=none) (S1:=S) (S2:=S) rfl rfl rfl rfl,zmx];rfl
   | some x =>
    refine ⟨_,rfl,?_⟩;rw [zpD (ps:=zp os os.length) (o:=false) (k:=.int x) (z:=.int x) (j:=some x) (S1:=S) (S2:=S) rfl rfl rfl rfl,zmw (h.mem.mpr (hg j x e))];rfl
 simp [zeC,zal,zhw,zeu,e,show c<=100000 by omega]
theorem zdt{ts:Z2}{os:List Int}(h:Ord ts.length os)(h8:ts.length<=8)(hg:InT ts g)(hr:r<=100)(hc:c<=100):zbK [.tup (ts.map zad),flr r c g,zad os] S=.ok (flr r c (mvG os g)) S:=by
 have e:zaw [.tup (ts.map zad),.tup (os.map D.int)] S=.ok .non S:=zgv (S:=S) h h8;have hl:=h.len
 obtain ⟨ρ',e1,x4,x5,rfl⟩:=zdS (tg:=.tup [4,5]) (body:=zdJ) (ds:=zge (os.map D.int)) (S:=S) (ρ:=[some (false,.tup (ts.map zad)),some (false,flr r c g),some (false,zad os),some (true,zgQ (zp os 0)),none,none]) (fun k ρ=>∃x4 x5,ρ=[some (false,.tup (ts.map zad)),some (false,flr r c g),some (false,zad os),some (true,zgQ (zp os k)),x4,x5]) (by
   rintro k d ρ hd ⟨x4,x5,rfl⟩;obtain ⟨y,hy,rfl⟩:=ziK hd;rw [yal] at hy;obtain ⟨x,hx,rfl⟩:=Option.map_eq_some_iff.mp hy;refine ⟨_,_,rfl,?_,some (false,.int k),some (false,.int x),rfl⟩;have hz:(zp os k).length<=100000:=yak zr5 (by omega);show (zaf (sFz [4] (zi5 3 (zac 5) (zac 4))) sNx) _ S=_;rw [<-zr4 h.nd hx];have q:=zs1 (i:=3) (ps:=zp os k) (fk:=zac 5) (fe:=zac 4) (k:=.int x) (j:=some x) (v:=(k:Int)) (S:=S) (S1:=S) (S2:=S) (ρ:=[some (false,.tup (ts.map zad)),some (false,flr r c g),some (false,zad os),some (true,zgQ (zp os k)),some (false,.int k),some (false,.int x)]) rfl rfl rfl rfl hz
   simp [q]) ⟨none,none,rfl⟩
 rw [ziJ,yae] at e1
 have e2:zbm (.one 0) zdq (eFn zeC [(zac 0),(zac 1)]) [none,some (false,zgQ (zp os os.length))] (zca r c g) S=.ok (zca r c (mvG os g)) S:=by
  rw [zaK (g:=fun d=>match d with | .tup l=>.tup (l.map (mvX os)) | _=>.non)]
  ·unfold zca zeu;rw [yaK];congr 2;funext i;show D.tup _=_;rw [zjf];rfl
  ·intro d hd;obtain ⟨i,_,rfl⟩:=yat.mp hd;refine ⟨_,rfl,?_⟩;show _=Out.ok (D.tup ((zcS c (g i)).map (mvX os))) S;rw [zjf];have q:=zkV (c:=c) (g:=g i) (S:=S) h (fun j x e=>hg i j x e) hc;simp only [zeu] at q ⊢;simp [q]
 have e0:zgQ (zp os 0)=zgQ []:=by unfold zp;simp
 rw [e0] at e1;have e1':zf2 (.tup [4,5]) zdJ (zge (os.map D.int)) [some (false,.tup (ts.map zad)),some (false,.tup (zca r c g)),some (false,.tup (os.map D.int)),some (true,zgQ []),none,none] S=.nx [some (false,.tup (ts.map zad)),some (false,.tup (zca r c g)),some (false,.tup (os.map D.int)),some (true,zgQ (zp os os.length)),x4,x5] S:=e1;rw [hl] at e1' e2;show zbK [.tup (ts.map zad),.tup (zca r c g),.tup (os.map D.int)] S=.ok (.tup (zca r c (mvG os g))) S;simp [zbK,zal,ze7,e,e1',e2,hl,show r<=100000 by omega,show ts.length<=100000 by omega]
noncomputable def sm(n:Nat)(f:Nat->Nat):Nat:=((List.range n).map f).sum
def zfA:sm (n+1) f=sm n f+f n:=by simp [sm,ya5]
theorem zdL(h:∀i,i<n->f i=g i):sm n f=sm n g:=by
 induction n with
 | zero=>rfl
 | succ k ih=>rw [zfA,zfA,ih fun i hi=>h i (by omega),h k (by omega)]
theorem zpg:sm n (fun i=>f i+g i)=sm n f+sm n g:=by
 induction n with
 | zero=>rfl
 | succ k ih=>rw [zfA,zfA,zfA,ih];omega
noncomputable def mt2:Option Int->Option Int->Option Bool | some a,some b=>some (decide (a=b)) | _,_=>none
def eaM(ts:Z2)(r c:Nat)(g:Z1)(i j:Nat):Option Bool:=mt2 (zaI ts r c g i j 1) (zaI ts r c g i (j+1) 3)
def soM(ts:Z2)(r c:Nat)(g:Z1)(i j:Nat):Option Bool:=mt2 (zaI ts r c g i j 2) (zaI ts r c g (i+1) j 0)
noncomputable def alN:Option Bool->Nat | some true=>1 | _=>0
noncomputable def unN:Option Bool->Nat | some false=>1 | _=>0
def znz(φ:Option Bool->Nat)(ts:Z2)(r c:Nat)(g:Z1):Nat:=sm r fun i=>sm c fun j=>φ (eaM ts r c g i j)+φ (soM ts r c g i j)
def zwF:cl2 a b=decide (mt2 a b=some false):=by
 cases a<;>cases b<;>simp [cl2,mt2]
def zn7{β:Type}{F:D->List β}:(zbd r c).flatMap F=(List.range r).flatMap fun i=>(List.range c).flatMap fun j=>F (plD i j):=by
 unfold zbd;rw [List.flatMap_assoc];congr 1;funext i;rw [yb2]
def zfa{β:Type}{F:D->List β}{p:β->Bool}:((zbd r c).flatMap F).countP p=sm r fun i=>sm c fun j=>(F (plD i j)).countP p:=by
 rw [zn7,List.countP_flatMap];unfold sm;congr 1;apply ybB;intro i _;show List.countP p (List.flatMap _ _)=_;rw [List.countP_flatMap];rfl
def zrC:(clL ts r c g).length=znz unN ts r c g:=by
 have:(clL ts r c g).length=(clL ts r c g).countP fun _=>true:=by simp
 rw [this];unfold clL;rw [zfa];refine zdL fun i _=>zdL fun j _=>?_
 simp only [plD,clG,yaB,zwF];show _=unN (eaM ts r c g i j)+unN (soM ts r c g i j);unfold eaM soM;rw [List.countP_append];congr 1
 ·cases mt2 (zaI ts r c g i j 1) (zaI ts r c g i (j+1) 3) with
  | none=>simp [unN]
  | some b=>cases b<;>simp [unN]
 ·cases mt2 (zaI ts r c g i j 2) (zaI ts r c g (i+1) j 0) with
  | none=>simp [unN]
  | some b=>cases b<;>simp [unN]
def prD(a b:Option Int):D:=.tup [oD a,oD b]
def meG(ts:Z2)(r c:Nat)(g:Z1):D->List D
 | .tup [.int i,.int j]=>[prD (zaI ts r c g i.toNat j.toNat 1) (zaI ts r c g i.toNat (j.toNat+1) 3),prD (zaI ts r c g i.toNat j.toNat 2) (zaI ts r c g (i.toNat+1) j.toNat 0)]
 | _=>[]
noncomputable def isM:D->Bool | .tup [.int _,.int _]=>true | _=>false
noncomputable def isE:D->Bool | .tup [.int a,.int b]=>decide (a=b) | _=>false
def zq2:(meG ts r c g d).length<=2:=by
 unfold meG
 split<;>simp
def zmt(hr:r<=100)(hc:c<=100):((zbd r c).flatMap (meG ts r c g)).length<=20000:=by
 refine yak (zhs fun d _=>zq2) ?_;rw [zbV];have:r*c<=100*100:=ybd hr hc;omega
def ztD:zll .non (prD a b)=some (.bl (isM (prD a b))):=by
 cases a<;>cases b<;>rfl
def zpy(h:d∈(zbd r c).flatMap (meG ts r c g)):∃a b,d=prD a b:=by
 rw [ybf] at h;obtain ⟨p,hp,hd⟩:=h;obtain ⟨i,j,_,_,rfl⟩:=za0 hp;simp only [plD,meG,yaA,yaV,ycF] at hd
 rcases hd with rfl | rfl<;>exact ⟨_,_,rfl⟩
theorem zia(ht:TOk ts)(hg:InT ts g)(h1:1<=r)(hr:r<=100)(hc:c<=100):zdN [.tup (ts.map zad),flr r c g] S=.ok (.lst (((zbd r c).flatMap (meG ts r c g)).filter isM)) S:=by
 have hlen:=zmt (ts:=ts) (g:=g) hr hc
 obtain ⟨x',e⟩:=zfv (tg:=.one 3) (body:=zdI) (S:=S) (fun L (x:Option (Bool×D))=>[some (false,.tup (ts.map zad)),some (false,flr r c g),some (true,.lst L),x]) (meG ts r c g) 50000 (ds:=zbd r c) (by
  intro d hd L x hL;obtain ⟨i,j,hi,hj,rfl⟩:=za0 hd;refine ⟨_,some (false,plD i j),rfl,?_⟩;have e1:=zjR (i:=i) (j:=j) (S:=S) (c:=c) ht hg h1;have e2:=zh6 (i:=i) (j:=j) (S:=S) (c:=c) ht hg h1
  have hl:L.length<=100000:=by omega
  have hl1:L.length+1<=100000:=by simp [meG] at hL;omega
  simp only [plD] at e1 e2
  simp [zdI,plD,e1,e2,meG,prD,hl,hl1]) [] none (by simp only [ycQ];omega)
 simp at e
 have e2:zbm (.one 0) (zah zll (zag .non) (zai 0)) (zac 0) [none] ((zbd r c).flatMap (meG ts r c g)) S=.ok (((zbd r c).flatMap (meG ts r c g)).filter isM) S:=by
  rw [zcz (g:=id) (p:=isM)]
  ·simp
  ·intro d hd;obtain ⟨a,b,rfl⟩:=zpy hd;exact ⟨_,rfl,by simp [ztD],fun _=>by simp⟩
 have hf:(((zbd r c).flatMap (meG ts r c g)).filter isM).length<=100000:=yak (yaO _ _) (by omega);simp [zdN,zal,ze5,za9 h1 hr hc,e,e2,hf]
theorem zlS(ht:TOk ts)(hg:InT ts g)(h1:1<=r)(hr:r<=100)(hc:c<=100):zhe [.tup (ts.map zad),flr r c g] S=.ok (.tup [.int (znz alN ts r c g),.int (znz unN ts r c g)]) S:=by
 have hlen:=zmt (ts:=ts) (g:=g) hr hc;have e0:=zia (S:=S) ht hg h1 hr hc;have hf:(((zbd r c).flatMap (meG ts r c g)).filter isM).length<=100000:=yak (yaO _ _) (by omega)
 have hM:(((zbd r c).flatMap (meG ts r c g)).filter isM).length=znz alN ts r c g+znz unN ts r c g:=by
  rw [<-List.countP_eq_length_filter,zfa];unfold znz;rw [<-zpg];refine zdL fun i _=>?_
  rw [<-zpg];refine zdL fun j _=>?_
  simp only [plD,meG,yaB,eaM,soM]
  cases zaI ts r c g i j 1<;>cases zaI ts r c g i (j+1) 3<;>cases zaI ts r c g i j 2<;>cases zaI ts r c g (i+1) j 0<;>simp [prD,oD,isM,mt2,alN,unN,List.countP_cons]<;>(repeat' split)<;>simp_all
 have e2:zbm (.one 0) (zah eqD (zah ixD (zai 0) (zag (.int 0))) (zah ixD (zai 0) (zag (.int 1)))) (zac 0) [none] (((zbd r c).flatMap (meG ts r c g)).filter isM) S=.ok ((((zbd r c).flatMap (meG ts r c g)).filter isM).filter isE) S:=by
  rw [zcz (g:=id) (p:=isE)]
  ·simp
  ·intro d hd;obtain ⟨hd1,hd2⟩:=ya0.mp hd;obtain ⟨a,b,rfl⟩:=zpy hd1
   cases a<;>cases b<;>simp [prD,oD,isM] at hd2
   exact ⟨_,rfl,by simp [prD,oD,isE],fun _=>by simp [prD,oD]⟩
 have hE:((((zbd r c).flatMap (meG ts r c g)).filter isM).filter isE).length=znz alN ts r c g:=by
  rw [yck,<-List.countP_eq_length_filter,zfa];unfold znz;refine zdL fun i _=>zdL fun j _=>?_
  simp only [plD,meG,yaB,eaM,soM]
  cases zaI ts r c g i j 1<;>cases zaI ts r c g i (j+1) 3<;>cases zaI ts r c g i j 2<;>cases zaI ts r c g (i+1) j 0<;>simp [prD,oD,isM,isE,mt2,alN,List.countP_cons]<;>(repeat' split)<;>simp_all
 have hf2:((((zbd r c).flatMap (meG ts r c g)).filter isM).filter isE).length<=100000:=yak (yaO _ _) hf;generalize (((zbd r c).flatMap (meG ts r c g)).filter isM)=M at *;generalize M.filter isE=A at *;rw [hE] at hf2;simp [zhe,zal,zjo,e0,e2,hf2,hM,hE];omega
def ztW(i:Nat)(ρ:Env)(l:List D)(d:D):Out D->Fo
 | .ok (.int n) S2=>(match ixN l.length n with | some k=>.nx (ρ.set i (some (true,.lst (l.set k d)))) S2 | none=>.bad)
 | .ok _ _=>.bad
 | .exc c S2=>.ex c ρ S2 | .bad=>.bad
noncomputable def zq7(i:Nat)(fi:Fe)(ρ:Env)(l:List D):Out D->Fo | .ok d S1=>ztW i ρ l d (fi ρ S1) | .exc c S1=>.ex c ρ S1 | .bad=>.bad
noncomputable def zAl(i:Nat)(fi fe:Fe)(ρ:Env)(S:Sto):Option (Option (Bool×D))->Fo | some (some (true,.lst l))=>zq7 i fi ρ l (fe ρ S) | _=>.bad
noncomputable def zyB(und:Str->Str->Bool)(C:Str)(i j:Nat):Fo->Fo
 | .ex c ρ' S'=>if und c C&&decide (i<ρ'.length) then .nx ((ρ'.set j (some (false,.exc c))).set i none) S' else .bad
 | o=>o
section
variable{ρ:Env}{S:Sto}{f g:Fe}{a:Fs}
@[simp] def zzU:zAl i f g ρ S (some (some (true,.lst l)))=zq7 i f ρ l (g ρ S):=(rfl)
@[simp] def zxW:zq7 i f ρ l (.ok d S)=ztW i ρ l d (f ρ S):=(rfl)
@[simp] def zxV:zyB und C i j (.nx ρ S)=.nx ρ S:=(rfl)
@[simp] def zxU:zyB und C i j (.ex c ρ S)=if und c C&&decide (i<ρ.length) then .nx ((ρ.set j (some (false,.exc c))).set i none) S else .bad:=(rfl)
@[simp] def zzd:zAn w C (.exc c)=(w c C).map .bl:=(rfl)
@[simp] def zxe:zdp (.exc c)=false:=(rfl)
@[simp] def zxd:zdp (.lst l)=false:=(rfl)
end
noncomputable abbrev Gf:=Nat->Nat->Option Int
noncomputable def ov(g h:Gf):Gf:=fun i j=>(h i j).or (g i j)
noncomputable def un(g h:Gf):Gf:=fun i j=>if (h i j).isSome then none else g i j
def zyH(c f:Str):Out D->Out D | .ok d S=>(match zkg c f d S with | some r=>.ok r S | none=>.bad) | .exc c S=>.exc c S | .bad=>.bad
noncomputable def zka(G:List D->Sto->Out D)(d:D):Out (List D)->Out D | .ok ds S=>G (d::ds) S | .exc c S=>.exc c S | .bad=>.bad
def ztZ(c m:Str)(G:List D->Sto->Out D)(fs:List Fe)(ρ:Env):Out D->Out D | .ok d S=>if zdz c m d S then zka G d (zan fs ρ S) else .bad | .exc c S=>.exc c S | .bad=>.bad
noncomputable def zuV(n:Nat):Out D->Out D | .ok r S=>(match r with | .non=>.ok (.ref n) S | _=>.bad) | .exc c S=>.exc c S | .bad=>.bad
noncomputable def kMk(c:Str)(dds:List D)(G:List D->Sto->Out D):Out (List D)->Out D | .ok ds S=>zuV S.length (G (.ref S.length::(ds++dds)) (S++[⟨c,[]⟩])) | .exc c S=>.exc c S | .bad=>.bad
def zoy(c f:Str)(dk:D):Out D->Out D | .ok d S=>(match zj4 dk,zhM c f d S with | some k,some (_,_,ds)=>.ok (.bl (zbE k ds).isNone) S | _,_=>.bad) | .exc c S=>.exc c S | .bad=>.bad
noncomputable def zyC(c f:Str)(fo:Fe)(ρ:Env):Out D->Out D | .ok d S=>zoy c f d (fo ρ S) | .exc c S=>.exc c S | .bad=>.bad
def zyF(c f:Str)(o:Option NK):Out D->Out D | .ok d S=>(match o,zhM c f d S with | some k,some (_,_,ds)=>(match zbE k ds with | some r=>.ok r S | none=>.bad) | _,_=>.bad) | .exc c S=>.exc c S | .bad=>.bad
section
variable{ρ:Env}{S:Sto}{f g h k:Fe}
@[simp] def zxw:zgl c x f ρ S=zyH c x (f ρ S):=by unfold zgl;cases f ρ S<;>rfl
@[simp] def zAb:zyH c x (.ok d S)=(match zkg c x d S with | some r=>.ok r S | none=>.bad):=(rfl)
@[simp] def zvh:zbY c m G f fs ρ S=ztZ c m G fs ρ (f ρ S):=by
 unfold zbY
 cases f ρ S with
 | ok d S1 =>
  show (if zdz c m d S1 then (zan fs ρ S1).bind fun ds S2=>G (d::ds) S2 else .bad)=(if zdz c m d S1 then zka G d (zan fs ρ S1) else .bad)
  cases zan fs ρ S1<;>rfl
 | exc c S=>rfl
 | bad=>rfl
@[simp] def zyc:ztZ c m G fs ρ (.ok d S)=if zdz c m d S then zka G d (zan fs ρ S) else .bad:=(rfl)
@[simp] def zv7:zka G d (.ok ds S)=G (d::ds) S:=(rfl)
@[simp] def zzm:eMk c dds G fs ρ S=kMk c dds G (zan fs ρ S):=by
 unfold eMk
 cases zan fs ρ S with
 | ok ds S1 =>
  show ((G (.ref S1.length::(ds++dds)) (S1++[⟨c,[]⟩])).bind fun r S2=>match r with | .non=>.ok (.ref S1.length) S2 | _=>.bad)=zuV S1.length (G (.ref S1.length::(ds++dds)) (S1++[⟨c,[]⟩]))
  cases G (.ref S1.length::(ds++dds)) (S1++[⟨c,[]⟩])<;>rfl
 | exc c S=>rfl
 | bad=>rfl
@[simp] def zAP:kMk c dds G (.ok ds S)=zuV S.length (G (.ref S.length::(ds++dds)) (S++[⟨c,[]⟩])):=(rfl)
@[simp] def zz0:zuV n (.ok .non S)=.ok (.ref n) S:=(rfl)
@[simp] def zxt:zpI c x f g ρ S=zyC c x g ρ (f ρ S):=by
 unfold zpI
 cases f ρ S with
 | ok d S1 =>
  show ((g ρ S1).bind fun d' S2=>match zj4 d,zhM c x d' S2 with | some k,some (_,_,ds)=>.ok (.bl (zbE k ds).isNone) S2 | _,_=>.bad)=zoy c x d (g ρ S1)
  cases g ρ S1<;>rfl
 | exc c S=>rfl
 | bad=>rfl
@[simp] def zzY:zyC c x g ρ (.ok d S)=zoy c x d (g ρ S):=(rfl)
@[simp] def zyb:zoy c x dk (.ok d S)=(match zj4 dk,zhM c x d S with | some k,some (_,_,ds)=>.ok (.bl (zbE k ds).isNone) S | _,_=>.bad):=(rfl)
@[simp] def zxv:zlc c x f i ρ S=zyF c x (zlm ρ i) (f ρ S):=by unfold zlc;cases f ρ S<;>rfl
@[simp] def zz7:zyF c x o (.ok d S)=(match o,zhM c x d S with | some k,some (_,_,ds)=>(match zbE k ds with | some r=>.ok r S | none=>.bad) | _,_=>.bad):=(rfl)
end
noncomputable def wOb(T Gd Sz:D)(b:Bool)(ds:List (D×D)):Ob:=⟨"Ways",[("tiles",false,T),("ground",false,Gd),("size",false,Sz),("is_round",false,.bl b),("known",true,.dic ds)]⟩
def ztA(o:Option Int):oDn o=oD o:=by cases o<;>rfl
structure WAt(S:Sto)(n:Nat)(ts:Z2)(gr:Z4)(r c:Nat)(b:Bool)(ds:List (D×D)):Prop where
 at_:S[n]?=some (wOb (.tup (ts.map zad)) (.lst (gr.map oD)) (.tup [.int r,.int c]) b ds)
section
variable{S:Sto}{n:Nat}{ts:Z2}{gr:Z4}{r c:Nat}{b:Bool}{ds:List (D×D)}
theorem WAt.tiles(h:WAt S n ts gr r c b ds):zkg "Ways" "tiles" (.ref n) S=some (.tup (ts.map zad)):=by
 unfold zkg;dsimp only;rw [h.at_];rfl
theorem WAt.ground(h:WAt S n ts gr r c b ds):zkg "Ways" "ground" (.ref n) S=some (.lst (gr.map oD)):=by
 unfold zkg;dsimp only;rw [h.at_];rfl
theorem WAt.size(h:WAt S n ts gr r c b ds):zkg "Ways" "size" (.ref n) S=some (.tup [.int r,.int c]):=by
 unfold zkg;dsimp only;rw [h.at_];rfl
def WAt.round(h:WAt S n ts gr r c b ds):zkg "Ways" "is_round" (.ref n) S=some (.bl b):=by
 unfold zkg;dsimp only;rw [h.at_];rfl
theorem WAt.known(h:WAt S n ts gr r c b ds):zhM "Ways" "known" (.ref n) S=some (n,wOb (.tup (ts.map zad)) (.lst (gr.map oD)) (.tup [.int r,.int c]) b ds,ds):=by
 unfold zhM;dsimp only;rw [h.at_];rfl
def WAt.meth(h:WAt S n ts gr r c b ds)(m:Str)(hm:(m == "tiles")=false/\(m == "ground")=false/\(m == "size")=false/\(m == "is_round")=false/\(m == "known")=false):zdz "Ways" m (.ref n) S=true:=by
 unfold zdz;dsimp only;rw [h.at_];obtain ⟨h1,h2,h3,h4,h5⟩:=hm;simp [wOb,yaE,h1,h2,h3,h4,h5]
def WAt.len(h:WAt S n ts gr r c b ds):n<S.length:=(yan.mp h.at_).1
def WAt.put(h:WAt S n ts gr r c b ds)(ds':List (D×D)):WAt (S.set n (wOb (.tup (ts.map zad)) (.lst (gr.map oD)) (.tup [.int r,.int c]) b ds')) n ts gr r c b ds':=⟨by rw [yaG h.len]⟩
def zaP(s:Z4):D:=.tup (s.map oD)
def znP:zj4 (.tup [.int k,zaP s])=some (k,s):=by
 have:zaP s=.tup (s.map oDn):=by unfold zaP;rw [show oDn=oD from funext ztA]
 rw [this];exact zeI (k,s)
theorem zki{α:Type}{a:α}:∀m:Nat,(List.replicate m [a]).flatten=List.replicate m a
 | 0=>rfl
 | m+1=>by rw [ya4,ybx,zki m,ya4];rfl
theorem zcK(h:WAt S n ts gr r c b ds)(hc:c<=100):zaX [.ref n] S=.ok (zaP (List.replicate (c+2) none)) S:=by
 have e:zgC (.tup [.non]) (.int ((c:Int)+2))=some (zaP (List.replicate (c+2) none)):=by
  show (if _ then _ else _)=_;rw [if_pos (by simp;omega),show ((c:Int)+2).toNat=c+2 by omega,zki];simp [zaP,oD]
 simp [zaX,zal,zb7,h.size,e]
theorem zfd{k:Nat}(h:WAt S n ts gr r c b ds)(hc:1<=c):zaY [.ref n,.int k] S=.ok (.bl (decide ((k+1) % c=0))) S:=by
 have e:(((k:Int)+1) % (c:Int))=(((k+1) % c:Nat):Int):=by rw [Int.natCast_emod];rfl
 have e3:(((k:Int)+1) % (c:Int)=0)=((k+1) % c=0):=propext (by rw [e];omega);simp [zaY,zal,zcx,h.size,show 0<c from hc,e3]
def crO(ts:Z2)(c k:Nat)(s:Z4)(x:Int):Option Int:=if k % c=0 then some (zbf ts x 3) else (s.getLastD none)
def zhN(ts:Z2)(L c:Nat)(b:Bool)(k:Nat)(s:Z4)(x:Int):List (Option Int) :=
 (if (k+1) % c=0 then none else some (zbf ts x 1))::((s.drop 2).dropLast++[if L<=k+c then none else some (zbf ts x 2),if b&&!decide ((k+1) % c=0) then crO ts c k s x else none])
def tl(ts:Z2)(x:Int):D:=.tup [.int (zbf ts x 0),.int (zbf ts x 1),.int (zbf ts x 2),.int (zbf ts x 3)]
noncomputable def okO:Option Int->Int->Bool | none,_=>true | some a,y=>decide (a=y)
def zkm(ts:Z2)(c:Nat)(b:Bool)(k:Nat)(s:Z4)(x:Int):Bool :=
 okO (s.getD 0 none) (zbf ts x 3)&&okO (s.getD 1 none) (zbf ts x 0)&&(!b||!decide ((k+1) % c=0)||decide (some (zbf ts x 1)=crO ts c k s x))
def zh5:zfJ [oD o,.int y] S=.ok (.bl (okO o y)) S:=by
 cases o<;>simp [zfJ,zal,zjn,oD,okO]
theorem zmB(h:s≠[]):atI (s.map oD) (-1)=some (oD (s.getLastD none)):=by
 have hl:0<s.length:=ycR.mpr h;unfold atI ixN;rw [yae,if_neg (by omega),if_pos (by omega)];show (s.map oD)[(-1+(s.length:Int)).toNat]?=_;rw [show (-1+(s.length:Int)).toNat=s.length-1 by omega,yal,ybq,List.getLast?_eq_getElem?,yaa (by omega)];rfl
theorem zdm{k:Nat}{s:Z4}(h:WAt S n ts gr r c b ds)(hc:1<=c)(hs:s.length=c+2):zav [.ref n,.int k,zaP s,tl ts x] S=.ok (oD (crO ts c k s x)) S:=by
 have e:((k:Int) % (c:Int))=((k % c:Nat):Int):=by rw [Int.natCast_emod]
 have e3:((k:Int) % (c:Int)=0)=(k % c=0):=propext (by rw [e];omega);have el:=zmB (s:=s) (by rintro rfl;simp at hs)
 by_cases z:k % c=0
 ·simp [zav,zal,za5,h.size,show 0<c from hc,e3,z,crO,tl,oD]
 ·simp [zav,zal,za5,h.size,show 0<c from hc,e3,z,crO,zaP,el]
theorem zrx{α:Type}{l:List α}(h:3<=l.length):zeS l (some 2) (some (-1))=(l.drop 2).dropLast:=by
 unfold zeS
 have e1:HT.sIx l.length 0 (some 2)=2:=by
  unfold HT.sIx;simp;omega
 have e2:HT.sIx l.length l.length (some (-1))=l.length-1:=by
  unfold HT.sIx;simp;omega
 rw [e1,e2,List.dropLast_eq_take,ybG];congr 1
noncomputable def sb6:Fe:=eIf (zac 4) (zag .non) (zah ixD (zai 3) (zag (.int 1)))
noncomputable def sb7:Fe:=eIf (zac 5) (zag .non) (zah ixD (zai 3) (zag (.int 2)))
noncomputable def sb8:Fe:=eIf (zhL (zgl "Ways" "is_round" (zac 0)) (eUn zd1 (zac 4))) (zbY "Ways" "colour_round" zav (zac 0) [(zac 1),(zac 2),(zac 3)]) (zag .non)
noncomputable def sbF:Fs:=(zaf (sFz [1] (zbg 4 false (zbY "Ways" "ends_row" zaY (zac 0) [(zac 1)])))
  (zaf (sFz [] (zbg 5 false (zah geD (zah zcn (zai 1) (zah ixD (zgl "Ways" "size" (zac 0)) (zag (.int 1)))) (zaq zcT [(zgl "Ways" "ground" (zac 0))]))))
  (zaf (sFz [4] (zbg 6 false sb6)) (zaf (sFz [5] (zbg 7 false sb7)) (zaf (sFz [4,1,2,3] (zbg 8 false sb8))
  (zaf (sFz [6,7,8] (zaS (zah zcn (zah zcn (zc5 [(zac 6)]) (eSl (zai 2) (some (zag (.int 2))) (some (eUn zpx (zag (.int 1)))))) (zc5 [(zac 7),(zac 8)])))) sNx))))))
def zsQ:zbX=sbF:=rfl
def zyM(h1:ρ[i]?=some (some (false,.bl bb)))(h2:ρ[j]?=some (some (false,.tup l)))(h3:atI l q=some d):eIf (zac i) (zag .non) (zah ixD (zai j) (zag (.int q))) ρ S=.ok (if bb then .non else d) S:=by
 cases bb<;>simp [h1,h2,h3]
theorem zAp(h:WAt S n ts gr r c b ds)(hc:1<=c)(hs:s.length=c+2)(h0:ρ[0]?=some (some (false,.ref n)))(h1:ρ[1]?=some (some (false,.int k)))(h2:ρ[2]?=some (some (false,zaP s)))(h3:ρ[3]?=some (some (false,tl ts x)))(h4:ρ[4]?=some (some (false,.bl bb))) :
  sb8 ρ S=.ok (if b&&!bb then oD (crO ts c k s x) else .non) S:=by
 have e2:=zdm (k:=k) (s:=s) (x:=x) h hc hs;have m2:=h.meth "colour_round" (by decide +kernel);generalize tl ts x=tt at *;generalize zaP s=sd at *;cases b
 ·simp [sb8,h0,h.round]
 ·cases bb<;>simp [sb8,h0,h1,h2,h3,h4,h.round,m2,e2]
theorem zfD{k:Nat}{s:Z4}(h:WAt S n ts gr r c b ds)(hc:1<=c)(hc2:c<=100)(hs:s.length=c+2):zbc [.ref n,.int k,zaP s,tl ts x] S=.ok (zaP (zhN ts gr.length c b k s x)) S:=by
 have e1:=zfd (k:=k) h hc;have m1:=h.meth "ends_row" (by decide +kernel);have eg:((gr.length:Int)<=(k:Int)+(c:Int))=(gr.length<=k+c):=propext (by omega)
 have ec:zeS (s.map oD) (some 2) (some (-1))=((s.drop 2).dropLast).map oD:=by
  rw [zrx (by rw [yae];omega),List.map_dropLast,List.map_drop]
 have hl:((s.drop 2).dropLast).length<=100:=by rw [ycD,ybG,hs];omega
 have E6:=fun (ρ:Env) (h4:ρ[4]?=some (some (false,.bl (decide ((k+1) % c=0))))) (h3:ρ[3]?=some (some (false,tl ts x)))=>(show sb6 ρ S=_ from zyM (S:=S) (i:=4) (j:=3) (q:=1) (d:=.int (zbf ts x 1)) h4 h3 rfl)
 have E7:=fun (ρ:Env) (h4:ρ[5]?=some (some (false,.bl (decide (gr.length<=k+c))))) (h3:ρ[3]?=some (some (false,tl ts x)))=>(show sb7 ρ S=_ from zyM (S:=S) (i:=5) (j:=3) (q:=2) (d:=.int (zbf ts x 2)) h4 h3 rfl)
 have E8:=fun (ρ:Env)=>zAp (k:=k) (s:=s) (x:=x) (bb:=decide ((k+1) % c=0)) (ρ:=ρ) h hc hs
 have ef:zaP (zhN ts gr.length c b k s x)=.tup ([if decide ((k+1) % c=0) then .non else .int (zbf ts x 1)]++((s.drop 2).dropLast).map oD++[if decide (gr.length<=k+c) then .non else .int (zbf ts x 2),if b&&!decide ((k+1) % c=0) then oD (crO ts c k s x) else .non]):=by
  unfold zhN zaP
  by_cases z1:(k+1) % c=0<;>by_cases z2:gr.length<=k+c<;>cases b<;>simp [z1,z2,oD]
 rw [ef];clear ef;have hsd:zaP s=.tup (s.map oD):=rfl;rw [hsd] at E8 ⊢;generalize oD (crO ts c k s x)=cr at *;generalize ((s.drop 2).dropLast)=M at ec hl ⊢;generalize s.map oD=sd at *;generalize tl ts x=tt at *;generalize (if decide ((k+1) % c=0) then D.non else .int (zbf ts x 1))=d6 at *;generalize (if decide (gr.length<=k+c) then D.non else .int (zbf ts x 2))=d7 at *;generalize (if b&&!decide ((k+1) % c=0) then cr else .non)=d8 at *
 have l1:1+M.length<=100000:=by omega
 have l2:M.length+1+2<=100000:=by omega
 have l3:M.length+1+1+1<=100000:=by omega
 simp only [zbc,zal,zsQ];simp [sbF,h.size,h.ground,m1,e1,eg,E6,E7,E8,ec,l1,l2,l3]
end
noncomputable def zje(ts:Z2):Option Int->List Int | none=>(List.range ts.length).map fun (i:Nat)=>(i:Int) | some x=>[x]
theorem zqR(ho:∀x,o=some x->0<=x/\x<ts.length):∀x∈zje ts o,0<=x/\x<ts.length:=by
 intro x hx
 cases o with
 | none =>
  obtain ⟨i,hi,rfl⟩:=yat.mp hx;have:=yaI.mp hi;omega
 | some y=>rw [yaF.mp hx];exact ho y rfl
section
variable{S:Sto}{n:Nat}{ts:Z2}{gr:Z4}{r c:Nat}{b:Bool}{ds:List (D×D)}
theorem zfF{k:Nat}(h:WAt S n ts gr r c b ds)(ht:ts.length<=100)(hk:gr[k]?=some o)(ho:∀x,o=some x->0<=x/\x<ts.length):zaN [.ref n,.int k] S=.ok (.lst ((zje ts o).map D.int)) S:=by
 have e1:atI (gr.map oD) (k:Int)=some (oD o):=by rw [zci,yal,hk];rfl
 have e2:=zba (ts:=ts.map zad) (o:=o) (S:=S) (fun x hx=>by simpa using ho x hx)
 cases o with
 | none =>
  have e3:lrD (.int (ts.length:Int))=some (.lst (((List.range ts.length).map fun (i:Nat)=>(i:Int)).map D.int)):=by
   show (if decide (0<=(ts.length:Int)/\(ts.length:Int)<=1000)=true then _ else none)=_;rw [if_pos (yaD ⟨by omega,by omega⟩),yaB,yaK];rfl
  simp [zaN,zal,zbe,h.ground,h.tiles,e1,oD,e3,zje]
 | some x =>
  simp only [oD] at e2;simp [zaN,zal,zbe,h.ground,h.tiles,e1,oD,e2,zje]
theorem znU{k:Nat}{s:Z4}(h:WAt S n ts gr r c b ds)(hc:1<=c)(hs:s.length=c+2):zc9 [.ref n,.int k,zaP s,tl ts x] S=.ok (.bl (zkm ts c b k s x)) S:=by
 have e1:=zfd (k:=k) h hc;have e2:=zdm (k:=k) (s:=s) (x:=x) h hc hs;have m1:=h.meth "ends_row" (by decide +kernel);have m2:=h.meth "colour_round" (by decide +kernel);have m3:=h.meth "fits_round" (by decide +kernel);have tlE:tl ts x=.tup [.int (zbf ts x 0),.int (zbf ts x 1),.int (zbf ts x 2),.int (zbf ts x 3)]:=rfl
 have e3:zaW [.ref n,.int k,zaP s,tl ts x] S=.ok (.bl (!b||!decide ((k+1) % c=0)||decide (some (zbf ts x 1)=crO ts c k s x))) S:=by
  have eq:∀o:Option Int,eqD (.int (zbf ts x 1)) (oD o)=some (.bl (decide (some (zbf ts x 1)=o))):=by
   intro o
   cases o with
   | none=>rfl
   | some y=>simp [oD]
  rw [tlE] at e2 ⊢;generalize zaP s=sd at e2 ⊢;generalize crO ts c k s x=cr at e2 ⊢
  cases b with
  | false=>simp [zaW,zal,zbq,h.round]
  | true=>by_cases z:(k+1) % c=0<;>simp [zaW,zal,zbq,h.round,m1,m2,e1,e2,z,eq]
 have g0:(s.map oD)[0]?=some (oD (s.getD 0 none)):=by
  rw [yal,yab,yaa (by omega)];rfl
 have g1:(s.map oD)[1]?=some (oD (s.getD 1 none)):=by
  rw [yal,yab,yaa (by omega)];rfl
 have s0:=zh5 (S:=S) (o:=s.getD 0 none) (y:=zbf ts x 3);have s1:=zh5 (S:=S) (o:=s.getD 1 none) (y:=zbf ts x 0);unfold zkm;generalize (!b||!decide ((k+1) % c=0)||decide (some (zbf ts x 1)=crO ts c k s x))=rr at e3 ⊢;unfold zaP at e3 ⊢;generalize s.map oD=sd at e3 g0 g1 ⊢;generalize s.getD 0 none=q0 at g0 s0 ⊢;generalize s.getD 1 none=q1 at g1 s1 ⊢;rw [tlE] at e3 ⊢
 cases h0:okO q0 (zbf ts x 3)<;>cases h1:okO q1 (zbf ts x 0)<;>rw [h0] at s0<;>rw [h1] at s1 <;>
  simp [zc9,zal,zeq,g0,g1,s0,s1,m3,e3]
def chD(p:Int×List (Option Int)):D:=.tup [.int p.1,zaP p.2]
def chs(ts:Z2)(gr:Z4)(c:Nat)(b:Bool)(k:Nat)(s:Z4):List (Int×List (Option Int)) :=
 ((zje ts (gr.getD k none)).filter (zkm ts c b k s)).map fun x=>(x,zhN ts gr.length c b k s x)
def chG(ts:Z2)(L c:Nat)(b:Bool)(k:Nat)(s:Z4):D->List D
 | .int x=>if zkm ts c b k s x then [chD (x,zhN ts L c b k s x)] else []
 | _=>[]
theorem zhB:∀l:List Int,(l.map D.int).flatMap (chG ts L c b k s)=((l.filter (zkm ts c b k s)).map fun x=>(x,zhN ts L c b k s x)).map chD
 | []=>rfl
 | x::l=>by
  rw [yay,yaH,zhB l,ycB];show (if zkm ts c b k s x then [chD (x,zhN ts L c b k s x)] else [])++_=_
  cases zkm ts c b k s x<;>simp
theorem zfI(h:WAt S n ts gr r c b ds)(ht:TOk ts)(hk:k<gr.length)(hg:∀o∈gr,∀x,o=some x->0<=x/\x<ts.length)(hc:1<=c)(hc2:c<=100)(hs:s.length=c+2) :
  zby [.ref n,.int k,zaP s] S=.ok (.lst ((chs ts gr c b k s).map chD)) S:=by
 have hk':gr[k]?=some (gr.getD k none):=by rw [yab,yaa hk];rfl
 have ho:=hg _ (ybL hk');have e1:=zfF h ht.le hk' ho;have m1:=h.meth "numbers_for" (by decide +kernel);have m2:=h.meth "fits" (by decide +kernel);have m3:=h.meth "seam_behind" (by decide +kernel);have hin:=zqR ho
 have hlen:(zje ts (gr.getD k none)).length<=100:=by
  cases gr.getD k none with
  | none=>simp only [zje,yae,yby];exact ht.le
  | some x=>simp [zje]
 unfold chs;generalize zje ts (gr.getD k none)=nums at e1 hin hlen ⊢
 have fl:((nums.map D.int).flatMap (chG ts gr.length c b k s)).length<=100:=by
  rw [zhB,yae,yae];exact yak (yaO _ _) hlen
 obtain ⟨x',e⟩:=zfv (tg:=.one 4) (body:=za8) (S:=S) (fun L (x:Option (Bool×D)×Option (Bool×D))=>[some (false,.ref n),some (false,.int k),some (false,zaP s),some (true,.lst L),x.1,x.2]) (chG ts gr.length c b k s) 50000 (ds:=nums.map D.int) (by
  intro d hd L x hL;obtain ⟨y,hy,rfl⟩:=yat.mp hd;obtain ⟨y0,y1⟩:=hin y hy;have et:=zhS ht y0 y1;have et':atI (ts.map zad) y=some (tl ts y):=et;have ef:=znU (k:=k) (s:=s) (x:=y) h hc hs;have eb:=zfD (k:=k) (s:=s) (x:=y) h hc hc2 hs
  have hLs:L.length<=100000:=by omega
  refine ⟨_,(some (false,.int y),some (false,tl ts y)),rfl,?_⟩;show za8 [some (false,.ref n),some (false,.int k),some (false,zaP s),some (true,.lst L),some (false,.int y),x.2] S=.nx [some (false,.ref n),some (false,.int k),some (false,zaP s),some (true,.lst (L++(if zkm ts c b k s y then [chD (y,zhN ts gr.length c b k s y)] else []))),some (false,.int y),some (false,tl ts y)] S
  cases hf:zkm ts c b k s y with
  | true =>
   rw [hf] at ef;simp [za8,h.tiles,et',m2,ef,m3,eb,chD,hLs]
  | false =>
   rw [hf] at ef
   simp [za8,h.tiles,et',m2,ef]) [] (none,none) (by simp only [ycQ];omega)
 rw [zhB] at e;simp only [ycL] at e;generalize ((nums.filter (zkm ts c b k s)).map fun x=>(x,zhN ts gr.length c b k s x)).map chD=res at e ⊢;simp [zby,zal,zcQ,m1,e1,e]
end
def zj9(c x:Str)(i:Nat)(ρ:Env)(r:D):Out D->Fo
 | .bad=>.bad
 | .exc c S2=>.ex c ρ S2
 | .ok d S2=>(match zlm ρ i,zhM c x d S2 with
   | some k,some (n,ob,ds)=>if (zbE k ds).isNone&&decide (ds.length<=1000000)&&zgB ob then .nx ρ (S2.set n (ob.put x true (.dic (ds++[(nkD k,r)])))) else .bad
   | _,_=>.bad)
noncomputable def zq8(c x:Str)(f:Fe)(i:Nat)(ρ:Env):Out D->Fo
 | .bad=>.bad
 | .exc c S2=>.ex c ρ S2
 | .ok r S1=>zj9 c x i ρ r (f ρ S1)
@[simp] def zvb:zkQ c x f i g ρ S=zq8 c x f i ρ (g ρ S):=by
 unfold zkQ zq8
 cases g ρ S with
 | ok r S1=>dsimp only;unfold zj9;cases f ρ S1<;>rfl
 | exc c S=>rfl
 | bad=>rfl
@[simp] def zya:zq8 c x f i ρ (.ok r S)=zj9 c x i ρ r (f ρ S):=(rfl)
def zq5(hk:zlm ρ i=some k)(hd:zhM c x d S=some (n,ob,ds))(h1:zbE k ds=none)(h2:ds.length<=1000000)(h3:zgB ob=true):zj9 c x i ρ r (.ok d S)=.nx ρ (S.set n (ob.put x true (.dic (ds++[(nkD k,r)])))):=by
 show (match zlm ρ i,zhM c x d S with | some k,some (n,ob,ds)=>_ | _,_=>_)=_;rw [hk,hd];show (if _ then _ else _)=_;rw [if_pos];rw [h1,h3,yaD h2];rfl
def zbH(ts:Z2)(gr:Z4)(c:Nat)(b:Bool):Nat->Nat->List (Option Int)->Nat
 | 0,_,_=>1
 | m+1,k,s=>((chs ts gr c b k s).map fun p=>zbH ts gr c b m (k+1) p.2).sum
noncomputable def zaQ(q:Nat):Nat->Nat
 | 0=>0
 | m+1=>1+q*zaQ q m
theorem zeR:∀ds:List (D×D),zbE k (ds++[(q,d)])=(zbE k ds).or (if zj4 q=some k then some d else none)
 | []=>by show (if _ then _ else _)=_;simp [zbE]
 | (q',d')::ds=>by
  show (if zj4 q'=some k then some d' else zbE k (ds++[(q,d)]))=_;rw [zeR ds];show _=(if zj4 q'=some k then some d' else zbE k ds).or _
  split<;>simp
noncomputable def zo7(ts:Z2)(gr:Z4)(c:Nat)(b:Bool)(ds:List (D×D)):Prop:=∀(k:Nat) s d,zbE ((k:Int),s) ds=some d->d=.int (zbH ts gr c b (gr.length-k) k s)
def zfo{S:Sto}(h:S[n]?=some ob):S.set n ob=S:=by
 obtain ⟨hn,e⟩:=yan.mp h;apply ya9;intro i
 by_cases z:n=i
 ·subst z;rw [yaG hn,h]
 ·rw [yaQ z]
def zjs(h1:1<=ts.length):(chs ts gr c b k s).length<=ts.length:=by
 unfold chs;rw [yae];refine yak (yaO _ _) ?_
 cases gr.getD k none with
 | none=>simp [zje]
 | some x=>simpa [zje] using h1
theorem znm(hc:1<=c)(hs:s.length=c+2):(zhN ts L c b k s x).length=c+2:=by
 unfold zhN;rw [yai,yah,ycD,ybG,hs];simp only [yai,ycQ];omega
def zhA(hc:1<=c)(hs:s.length=c+2):∀p∈chs ts gr c b k s,p.2.length=c+2:=by
 intro p hp;obtain ⟨x,_,rfl⟩:=yat.mp hp;exact znm hc hs
theorem zln{α:Type}{f:α->Nat}:∀{l:List α},(∀x∈l,f x<=m)->(l.map f).sum<=l.length*m
 | [],_=>by simp
 | x::l,h=>by
  have h1:=h x yaw;have h2:=zln (l:=l) fun y hy=>h y (yao _ hy)
  rw [yay,ycl,yai,ybX];omega
theorem zlo(h1:1<=ts.length):∀m k s,zbH ts gr c b m k s<=ts.length ^ m
 | 0,_,_=>by simp [zbH]
 | m+1,k,s=>by
  unfold zbH;refine yak (zln fun p _=>zlo h1 m (k+1) p.2) ?_;rw [Nat.pow_succ,ybv];exact Nat.mul_le_mul_left _ (zjs h1)
structure CfOk(n:Nat)(ts:Z2)(gr:Z4)(r c:Nat)(b:Bool)(m:Nat)(rc:List D->Sto->Out D):Prop where
 run:∀(S:Sto) (ds:List (D×D)) (k:Nat) (s:Z4),WAt S n ts gr r c b ds->zo7 ts gr c b ds->k+m=gr.length->s.length=c+2->ds.length+zaQ ts.length m<=1000000 →
  ∃ds',rc [.ref n,.int k,zaP s] S=.ok (.int (zbH ts gr c b m k s)) (S.set n (wOb (.tup (ts.map zad)) (.lst (gr.map oD)) (.tup [.int r,.int c]) b ds'))/\zo7 ts gr c b ds'/\ds'.length<=ds.length+zaQ ts.length m/\∀k' s',k'<k->zbE (((k':Nat):Int),s') ds'=zbE (((k':Nat):Int),s') ds
section
variable{n:Nat}{ts:Z2}{gr:Z4}{r c:Nat}{b:Bool}
theorem zkv(C:CfOk n ts gr r c b m rc)(hk:k+1+m=gr.length):∀(l:List (Int×List (Option Int))) (S:Sto) (ds:List (D×D)),(∀p∈l,p.2.length=c+2)->WAt S n ts gr r c b ds->zo7 ts gr c b ds->ds.length+l.length*zaQ ts.length m<=1000000 →
  ∃ds',zbm (.one 0) zdq (zbY "Ways" "count_from" rc (zac 1) [(zah zcn (zai 2) (zag (.int 1))),(zah ixD (zai 0) (zag (.int 1)))]) [none,some (false,.ref n),some (false,.int k)] (l.map chD) S
   = .ok (l.map fun p=>.int (zbH ts gr c b m (k+1) p.2)) (S.set n (wOb (.tup (ts.map zad)) (.lst (gr.map oD)) (.tup [.int r,.int c]) b ds'))/\zo7 ts gr c b ds'/\ds'.length<=ds.length+l.length*zaQ ts.length m/\∀k' s',k'<k+1->zbE (((k':Nat):Int),s') ds'=zbE (((k':Nat):Int),s') ds
 | [],S,ds,_,W,M,_=>⟨ds,by rw [zfo W.at_];rfl,M,by simp,fun _ _ _=>rfl⟩
 | p::l,S,ds,hl,W,M,hz=>by
  rw [yai,ybX] at hz;obtain ⟨ds1,e1,M1,z1,u1⟩:=C.run S ds (k+1) p.2 W M hk (hl p yaw) (by omega);obtain ⟨ds2,e2,M2,z2,u2⟩:=zkv C hk l _ ds1 (fun q hq=>hl q (yao _ hq)) (W.put ds1) M1 (by omega);refine ⟨ds2,?_,M2,by rw [yai,ybX];omega,fun k' s' hk'=>(u2 k' s' hk').trans (u1 k' s' hk')⟩;rw [yc2] at e2;have mo:=W.meth "count_from" (by decide +kernel);have e1':rc [.ref n,.int ((k:Int)+1),zaP p.2] S=_:=e1;unfold zbm;rw [yay];dsimp only;generalize hob:wOb (.tup (ts.map zad)) (.lst (gr.map oD)) (.tup [.int r,.int c]) b ds1=ob1 at *;simp [chD,mo,e1',e2]
def zrE:CfOk n ts gr r c b 0 (znY 4 false zak (f+1)) where
 run:=fun S ds k s W M hk hs hz=>by
  refine ⟨ds,?_,M,Nat.le_add_right _ _,fun _ _ _=>rfl⟩;rw [zfo W.at_]
  have hk':k=gr.length:=by omega
  subst hk';show zbh 4 false (zak _) _ _=_;simp [zal,zak,W.ground,zbH]
theorem zrF(C:CfOk n ts gr r c b m (znY 4 false zak f))(ht:TOk ts)(h1:1<=ts.length)(hg:∀o∈gr,∀x,o=some x->0<=x/\x<ts.length)(hc:1<=c)(hc2:c<=100)(hp:ts.length ^ m<=1000000):CfOk n ts gr r c b (m+1) (znY 4 false zak (f+1)) where
 run:=fun S ds k s W M hk hs hz=>by
  have hkl:k<gr.length:=by omega
  have hne:decide ((k:Int)=(gr.length:Int))=false:=yaJ (by omega);have ek:=znP (k:=(k:Int)) (s:=s);show ∃ds',zbh 4 false (zak _) _ _=_/\_;generalize znY 4 false zak f=rc at C
  cases hd:zbE ((k:Int),s) ds with
  | some d =>
   have hd':=M k s d hd;rw [show gr.length-k=m+1 by omega] at hd';subst hd';refine ⟨ds,?_,M,Nat.le_add_right _ _,fun _ _ _=>rfl⟩;rw [zfo W.at_];generalize zaP s=sd at ek;generalize zbH ts gr c b (m+1) k s=cc at hd;simp [zal,zak,W.ground,W.known,hne,ek,hd,zlm]
  | none =>
   have hcl:=zjs (gr:=gr) (c:=c) (b:=b) (k:=k) (s:=s) h1;have hmul:(chs ts gr c b k s).length*zaQ ts.length m<=ts.length*zaQ ts.length m:=ybu _ hcl;have hz':ds.length+(1+ts.length*zaQ ts.length m)<=1000000:=hz;have ech:=zfI (k:=k) (s:=s) W ht hkl hg hc hc2 hs;obtain ⟨ds1,e1,M1,z1,u1⟩:=zkv C (k:=k) (by omega) (chs ts gr c b k s) S ds (zhA hc hs) W M (by omega);have hd1:zbE ((k:Int),s) ds1=none:=(u1 k s (ybF k)).trans hd
   have hsum:zsm [.lst ((chs ts gr c b k s).map fun p=>D.int (zbH ts gr c b m (k+1) p.2:Nat))]=some (.int (zbH ts gr c b (m+1) k s:Nat)):=by
    have ei:∀l:List (Int×List (Option Int)),zcu (l.map fun p=>D.int (zbH ts gr c b m (k+1) p.2:Nat))=some (l.map fun p=>((zbH ts gr c b m (k+1) p.2:Nat):Int)):=by
     intro l
     induction l with
     | nil=>rfl
     | cons p l ih=>rw [yay,yay];simp [zcu,ih]
    have es:∀l:List (Int×List (Option Int)),(l.map fun p=>((zbH ts gr c b m (k+1) p.2:Nat):Int)).sum=(((l.map fun p=>zbH ts gr c b m (k+1) p.2).sum:Nat):Int):=by
     intro l
     induction l with
     | nil=>rfl
     | cons p l ih=>rw [yay,yay,ycl,ycl,ih,Int.natCast_add]
    show (zcu _).bind _=_;rw [ei];show (if _ then some (D.int _) else none)=_;rw [if_pos,es]
    ·rfl
    ·rw [yac];refine ⟨yaD (by rw [yae];exact yak hcl (yak ht.le (by decide))),?_⟩;rw [ya1];intro x hx;obtain ⟨p,_,rfl⟩:=yat.mp hx;have:=zlo (gr:=gr) (c:=c) (b:=b) h1 m (k+1) p.2;exact yaD (by omega)
   have W1:=W.put ds1;have mo:=W.meth "choices" (by decide +kernel);have hlen:(chs ts gr c b k s).length<=100000:=yak hcl (yak ht.le (by decide))
   have hnd:zgB (wOb (.tup (ts.map zad)) (.lst (gr.map oD)) (.tup [.int r,.int c]) b ds1)=true:=by
    unfold zgB;show decide ((["tiles","ground","size","is_round","known"]:List Str).Nodup)=true;decide +kernel
   have hput:(wOb (.tup (ts.map zad)) (.lst (gr.map oD)) (.tup [.int r,.int c]) b ds1).put "known" true (.dic (ds1++[(nkD ((k:Int),s),.int (zbH ts gr c b (m+1) k s:Nat))]))=wOb (.tup (ts.map zad)) (.lst (gr.map oD)) (.tup [.int r,.int c]) b (ds1++[(nkD ((k:Int),s),.int (zbH ts gr c b (m+1) k s:Nat))]):=by rfl
   refine ⟨ds1++[(nkD ((k:Int),s),.int (zbH ts gr c b (m+1) k s:Nat))],?_,?_,?_,?_⟩
   ·have W2:=W.put (ds1++[(nkD ((k:Int),s),.int (zbH ts gr c b (m+1) k s:Nat))])
    have hl2:zbE ((k:Int),s) (ds1++[(nkD ((k:Int),s),.int (zbH ts gr c b (m+1) k s:Nat))])=some (.int (zbH ts gr c b (m+1) k s:Nat)):=by
     rw [zeR,hd1,zeI,if_pos rfl];rfl
    generalize hres:(chs ts gr c b k s).map (fun p=>D.int (zbH ts gr c b m (k+1) p.2:Nat))=res at e1 hsum
    have hrl:res.length<=100000:=by rw [<-hres,yae];exact hlen
    have hkey:zlm [some (false,D.ref n),some (false,.int k),some (false,zaP s),some (false,.tup [.int k,zaP s])] 3=some ((k:Int),s):=ek;have hpk:=zq5 (r:=.int (zbH ts gr c b (m+1) k s:Nat)) hkey W1.known hd1 (by omega) hnd;rw [hput,yc2] at hpk;have hkn:=W2.known;have hkn0:=W.known;have hgr:=W.ground;generalize wOb (.tup (ts.map zad)) (.lst (gr.map oD)) (.tup [.int r,.int c]) b (ds1++[(nkD ((k:Int),s),.int (zbH ts gr c b (m+1) k s:Nat))])=ob2 at hpk hkn ⊢;generalize wOb (.tup (ts.map zad)) (.lst (gr.map oD)) (.tup [.int r,.int c]) b ds1=ob1 at hpk e1;generalize ds1++[(nkD ((k:Int),s),D.int (zbH ts gr c b (m+1) k s:Nat))]=ds2 at hkn hl2;generalize zbH ts gr c b (m+1) k s=vv at hsum hpk hl2 ⊢;generalize zaP s=sd at ek ech hkey hpk ⊢;generalize (chs ts gr c b k s).map chD=cs at ech e1;simp [zal,zak,hgr,hkn0,hne,ek,hd,mo,ech,e1,hrl,hsum,hpk,hkey,hkn,hl2]
   ·intro k' s' d h';rw [zeR] at h'
    cases h2:zbE ((k':Int),s') ds1 with
    | some d'=>rw [h2] at h';cases h';exact M1 k' s' _ h2
    | none =>
     rw [h2,zeI] at h';have h'':(if some ((k:Int),s)=some ((k':Int),s') then some (D.int (zbH ts gr c b (m+1) k s:Nat)) else none)=some d:=h';split at h''
     ·rename_i ee;cases h'';have ee':=Option.some.inj ee
      have ek':k=k':=by have z:(k:Int)=(k':Int):=congrArg Prod.fst ee';omega
      have es':s=s':=congrArg Prod.snd ee';subst ek';subst es';rw [show gr.length-k=m+1 by omega]
     ·cases h''
   ·rw [yah,yaN];show _<=ds.length+(1+ts.length*zaQ ts.length m);omega
   ·intro k' s' hk';rw [zeR,u1 k' s' (by omega),zeI,if_neg]
    ·cases zbE ((k':Int),s') ds<;>rfl
    ·intro z;have:=congrArg Prod.fst (Option.some.inj z);simp at this;omega
end
def zkb(c x:Str)(ρ:Env)(r:D):Out D->Fo
 | .bad=>.bad
 | .exc c S2=>.ex c ρ S2
 | .ok (.ref n) S2=>(match S2[n]? with
   | some ob=>if decide (ob.cls=c)&&decide (ob.fs.length<1000) then .nx ρ (S2.set n (ob.put x false r)) else .bad
   | none=>.bad)
 | .ok _ _=>.bad
noncomputable def zq9(c x:Str)(f:Fe)(ρ:Env):Out D->Fo
 | .bad=>.bad
 | .exc c S2=>.ex c ρ S2
 | .ok r S1=>zkb c x ρ r (f ρ S1)
@[simp] def zvc:zg5 c x f g ρ S=zq9 c x f ρ (g ρ S):=by
 unfold zg5 zq9
 cases g ρ S with
 | ok r S1 =>
  dsimp only;unfold zkb
  cases f ρ S1 with
  | ok d S2=>cases d<;>rfl
  | exc c S=>rfl
  | bad=>rfl
 | exc c S=>rfl
 | bad=>rfl
@[simp] def zyj:zq9 c x f ρ (.ok r S)=zkb c x ρ r (f ρ S):=(rfl)
def zq6(h:fs.length<1000)(hn:S.length=n):zkb c x ρ r (.ok (.ref n) (S++[⟨c,fs⟩]))=.nx ρ (S++[⟨c,zaR x false r fs⟩]):=by
 subst hn;show (match (S++[(⟨c,fs⟩:Ob)])[S.length]? with | some ob=>_ | none=>_)=_;rw [yap (yam _),ybw];show (if _ then Fo.nx ρ ((S++[(⟨c,fs⟩:Ob)]).set S.length _) else _)=_;rw [if_pos,List.set_append_right _ _ (yam _),ybw]
 ·rfl
 ·rw [yac];exact ⟨yaD rfl,yaD h⟩
def zpT(hi:ρ[i]?=some (some (false,.ref n)))(h:fs.length<1000)(hn:S.length=n):zkS c x i ρ (S++[⟨c,fs⟩])=.nx ρ (S++[⟨c,zaR x true (.dic []) fs⟩]):=by
 subst hn;unfold zkS;rw [hi];show (match (S++[(⟨c,fs⟩:Ob)])[S.length]? with | some ob=>_ | none=>_)=_;rw [yap (yam _),ybw];show (if _ then Fo.nx ρ ((S++[(⟨c,fs⟩:Ob)]).set S.length _) else _)=_;rw [if_pos,List.set_append_right _ _ (yam _),ybw]
 ·rfl
 ·rw [yac];exact ⟨yaD rfl,yaD h⟩
theorem zdw:∀{gs:List (Str×Bool×D)},(zaR x o d gs).length<=gs.length+1
 | []=>by simp [zaR]
 | (y,z)::gs=>by
  unfold zaR;split
  ·simp
  ·have:=zdw (x:=x) (o:=o) (d:=d) (gs:=gs);simp only [yai];omega
noncomputable def zao(r c:Nat)(g:Z1):List (Option Int):=(List.range r).flatMap fun i=>(List.range c).map fun j=>g i j
noncomputable def zzK(g:Z1):D->D | .tup [.int i,.int j]=>oD (g i.toNat j.toNat) | _=>.non
def zgG:(zbd r c).map (zzK g)=(zao r c g).map oD:=by
 unfold zbd zao;rw [ybI,ybI];congr 1;funext i;rw [yaK,yaK];rfl
def zaL:(zao r c g).length=r*c:=by
 have:=congrArg List.length (zgG (r:=r) (c:=c) (g:=g));rw [yae,yae,zbV] at this;exact this.symm
theorem zjO(h1:1<=r)(hr:r<=100)(hc:c<=100) :
  zaZ [.ref S.length,T,flr r c g,.bl b] (S++[⟨"Ways",[]⟩])=.ok .non (S++[wOb T (.lst ((zao r c g).map oD)) (.tup [.int r,.int c]) b []]):=by
 have e1:∀S',zaC [flr r c g] S'=.ok (.lst (zbd r c)) S':=fun S'=>za9 h1 hr hc
 have e2:∀S',zbS [flr r c g] S'=.ok (.tup [.int r,.int c]) S':=fun S'=>zew h1
 have e3:∀S',zbm (.one 0) zdq (eFn zam [(zac 1),(zac 0)]) [none,some (false,flr r c g)] (zbd r c) S'=.ok ((zao r c g).map oD) S':=fun S'=>by
  rw [<-zgG];refine zaK fun d hd=>?_
  obtain ⟨i,j,hi,hj,rfl⟩:=za0 hd;refine ⟨_,rfl,?_⟩;have:=zbJ (g:=g) (S:=S') hi hj;simp [this];rfl
 have hl:((zao r c g).map oD).length<=100000:=by
  rw [yae,zaL];exact yak (ybd hr hc) (by decide)
 generalize (zao r c g).map oD=gl at e3 hl;generalize flr r c g=fl at *;have l1:=zdw (x:="tiles") (o:=false) (d:=T) (gs:=[]);have l2:=zdw (x:="ground") (o:=false) (d:=.lst gl) (gs:=zaR "tiles" false T []);have l3:=zdw (x:="size") (o:=false) (d:=.tup [.int r,.int c]) (gs:=zaR "ground" false (.lst gl) (zaR "tiles" false T []));have l4:=zdw (x:="is_round") (o:=false) (d:=.bl b) (gs:=zaR "size" false (.tup [.int r,.int c]) (zaR "ground" false (.lst gl) (zaR "tiles" false T [])));have p1:=fun (x:Str) (ρ:Env) (d:D) (fs:List (Str×Bool×D)) (h:fs.length<1000)=>zq6 (c:="Ways") (x:=x) (ρ:=ρ) (S:=S) (r:=d) (fs:=fs) h rfl
 have l0:([]:List (Str×Bool×D)).length=0:=rfl;have p2:=zpT (c:="Ways") (x:="known") (i:=0) (ρ:=[some (false,.ref S.length),some (false,T),some (false,fl),some (false,.bl b)]) (S:=S) (n:=S.length) (fs:=zaR "is_round" false (.bl b) (zaR "size" false (.tup [.int r,.int c]) (zaR "ground" false (.lst gl) (zaR "tiles" false T [])))) rfl (by omega) rfl;have q1:=p1 "tiles" [some (false,.ref S.length),some (false,T),some (false,fl),some (false,.bl b)] T [] (by omega);have q2:=p1 "ground" [some (false,.ref S.length),some (false,T),some (false,fl),some (false,.bl b)] (.lst gl) (zaR "tiles" false T []) (by omega);have q3:=p1 "size" [some (false,.ref S.length),some (false,T),some (false,fl),some (false,.bl b)] (.tup [.int r,.int c]) (zaR "ground" false (.lst gl) (zaR "tiles" false T [])) (by omega);have q4:=p1 "is_round" [some (false,.ref S.length),some (false,T),some (false,fl),some (false,.bl b)] (.bl b) (zaR "size" false (.tup [.int r,.int c]) (zaR "ground" false (.lst gl) (zaR "tiles" false T []))) (by omega);clear l1 l2 l3 l4 l0
 have fin:(⟨"Ways",zaR "known" true (.dic []) (zaR "is_round" false (.bl b) (zaR "size" false (.tup [.int r,.int c]) (zaR "ground" false (.lst gl) (zaR "tiles" false T []))))⟩:Ob)=wOb T (.lst gl) (.tup [.int r,.int c]) b []:=by rfl
 rw [fin] at p2;generalize zaR "is_round" false (.bl b) (zaR "size" false (.tup [.int r,.int c]) (zaR "ground" false (.lst gl) (zaR "tiles" false T [])))=f4 at *;generalize zaR "size" false (.tup [.int r,.int c]) (zaR "ground" false (.lst gl) (zaR "tiles" false T []))=f3 at *;generalize zaR "ground" false (.lst gl) (zaR "tiles" false T [])=f2 at *;generalize zaR "tiles" false T []=f1 at *;generalize wOb T (.lst gl) (.tup [.int r,.int c]) b []=ob at *;simp [zaZ,zal,zcy,e1,e2,e3,hl,q1,q2,q3,q4,p2]
theorem zkx{n:Nat}{ts:Z2}{gr:Z4}{r c:Nat}{b:Bool}(ht:TOk ts)(h1:1<=ts.length)(hg:∀o∈gr,∀x,o=some x->0<=x/\x<ts.length)(hc:1<=c)(hc2:c<=100):∀m f,m+1<=f->ts.length ^ m<=1000000->CfOk n ts gr r c b m (znY 4 false zak f)
 | 0,f+1,_,_=>zrE
 | m+1,f+1,hf,hp=>by
  have hp':ts.length ^ m<=1000000:=yak (Nat.pow_le_pow_right h1 (yb5 m)) hp;exact zrF (zkx ht h1 hg hc hc2 m f (by omega) hp') ht h1 hg hc hc2 hp'
theorem zha(W:WAt S n ts gr r c b [])(ht:TOk ts)(h1:1<=ts.length)(hg:∀o∈gr,∀x,o=some x->0<=x/\x<ts.length)(hc:1<=c)(hc2:c<=100)(hm:gr.length<=30)(hp:ts.length ^ gr.length<=1000000)(hq:zaQ ts.length gr.length<=1000000) :
  ∃ds',zaG [.ref n] S=.ok (.int (zbH ts gr c b gr.length 0 (List.replicate (c+2) none))) (S.set n (wOb (.tup (ts.map zad)) (.lst (gr.map oD)) (.tup [.int r,.int c]) b ds')):=by
 obtain ⟨ds',e,_⟩:=(zkx (n:=n) (r:=r) (b:=b) ht h1 hg hc hc2 gr.length 40 (by omega) hp).run S [] 0 (List.replicate (c+2) none) W (fun k s d h=>by cases h) (by omega) (yaC ..) (by simpa using hq);refine ⟨ds',?_⟩;have e':zax [.ref n,.int 0,zaP (List.replicate (c+2) none)] S=_:=e;have e2:=zcK W hc2;have m1:=W.meth "count_from" (by decide +kernel);have m2:=W.meth "first_seam" (by decide +kernel);generalize wOb (.tup (ts.map zad)) (.lst (gr.map oD)) (.tup [.int r,.int c]) b ds'=ob at *;simp [zaG,zal,zbC,m1,m2,e2,e']
def znE(ts:Z2)(r c:Nat)(g:Z1)(b:Bool):Nat:=zbH ts (zao r c g) c b (r*c) 0 (List.replicate (c+2) none)
theorem zfG(ht:TOk ts)(h1:1<=ts.length)(hg:InT ts g)(hr1:1<=r)(hr:r<=100)(hc:1<=c)(hc2:c<=100)(hm:r*c<=30)(hp:ts.length ^ (r*c)<=1000000)(hq:zaQ ts.length (r*c)<=1000000) :
  ∃S',zaA [.tup (ts.map zad),flr r c g] S=.ok (.int (znE ts r c g false)) S':=by
 have e1:=zjO (T:=.tup (ts.map zad)) (b:=false) (S:=S) (g:=g) (c:=c) hr1 hr hc2;have W:WAt (S++[wOb (.tup (ts.map zad)) (.lst ((zao r c g).map oD)) (.tup [.int r,.int c]) false []]) S.length ts (zao r c g) r c false []:=⟨by rw [yap (yam _),ybw];rfl⟩
 have hgl:∀o∈zao r c g,∀x,o=some x->0<=x/\x<ts.length:=by
  intro o ho x hx;obtain ⟨i,_,ho⟩:=ybf.mp ho;obtain ⟨j,_,rfl⟩:=yat.mp ho;exact hg i j x hx
 obtain ⟨ds',e2⟩:=zha W ht h1 hgl hc hc2 (by rw [zaL];exact hm) (by rw [zaL];exact hp) (by rw [zaL];exact hq);rw [zaL] at e2;have m:=W.meth "count_all" (by decide +kernel);obtain ⟨S',hS⟩:∃S',(S++[wOb (.tup (ts.map zad)) (.lst ((zao r c g).map oD)) (.tup [.int r,.int c]) false []]).set S.length (wOb (.tup (ts.map zad)) (.lst ((zao r c g).map oD)) (.tup [.int r,.int c]) false ds')=S':=⟨_,rfl⟩;rw [hS] at e2;clear hS;refine ⟨S',?_⟩;unfold znE;generalize wOb (.tup (ts.map zad)) (.lst ((zao r c g).map oD)) (.tup [.int r,.int c]) false []=ob at *;simp [zaA,zal,zdg,e1,m,e2]
noncomputable def zcF(ts:Z2):List Int:=(List.range ts.length).map fun (i:Nat)=>(i:Int)
def zdx(ts:Z2)(c:Nat)(o:Option Int)(t:List Int):List (List Int):=((zcF ts).filter fun x=>okO o x&&zi0 ts c t x).map fun x=>t++[x]
def zaH(ts:Z2)(gr:Z4)(c:Nat):Nat->List (List Int)
 | 0=>[[]]
 | k+1=>(zaH ts gr c k).flatMap (zdx ts c (gr.getD k none))
theorem zf4{α β:Type}{g:α->List β}:∀{l:List α},(∀x∈l,(g x).length<=m)->(l.flatMap g).length<=l.length*m
 | [],_=>by simp
 | x::l,h=>by
  have h1:=h x yaw;have h2:=zf4 (l:=l) fun y hy=>h y (yao _ hy)
  rw [yaH,yah,yai,ybX];omega
structure FillG(ts:Z2)(k:Nat)(F:Z2):Prop where
 mem:∀t∈F,t.length=k/\InR ts t
theorem zc3:∀k,FillG ts k (zaH ts gr c k)
 | 0=>⟨fun t ht=>by rw [yaF.mp ht];exact ⟨rfl,fun x hx=>(yaV hx).elim⟩⟩
 | k+1=>⟨fun t ht=>by
  obtain ⟨u,hu,ht⟩:=ybf.mp ht;obtain ⟨x,hx,rfl⟩:=yat.mp ht;obtain ⟨h1,h2⟩:=(zc3 (ts:=ts) (gr:=gr) (c:=c) k).mem u hu;refine ⟨by rw [yah,h1];rfl,fun y hy=>?_⟩
  rcases ybr.mp hy with hy | hy
  ·exact h2 y hy
  ·rw [yaF.mp hy];obtain ⟨i,hi,rfl⟩:=yat.mp (ya0.mp hx).1;have:=yaI.mp hi
   omega⟩
def zwX:(zca r c g).flatMap zzq=(zao r c g).map oD:=by
 unfold zca zao;rw [yb2,ybI];congr 1;funext i;show zcS c (g i)=_;rw [yaK];rfl
def zmZ(ts:Z2)(gr:Z4)(c:Nat):Nat->List Int->Nat
 | 0,_=>1
 | m+1,t=>((zdx ts c (gr.getD t.length none) t).map (zmZ ts gr c m)).sum
theorem zjI{α:Type}{f:α->Nat}{h:α->List α}:∀l:List α,((l.flatMap h).map f).sum=(l.map fun t=>((h t).map f).sum).sum
 | []=>rfl
 | t::l=>by rw [yaH,ybV,List.sum_append,zjI l,yay,ycl]
theorem ziF:∀m k,(zaH ts gr c (k+m)).length=((zaH ts gr c k).map (zmZ ts gr c m)).sum
 | 0,k=>by
  show (zaH ts gr c k).length=_;generalize zaH ts gr c k=F
  induction F with
  | nil=>rfl
  | cons t F ih=>rw [yai,ih,yay,ycl];simp [zmZ];omega
 | m+1,k=>by
  rw [show k+(m+1)=(k+1)+m by omega,ziF m (k+1)];show (((zaH ts gr c k).flatMap _).map _).sum=_;rw [zjI];congr 1;apply ybB;intro t ht;show _=((zdx ts c (gr.getD t.length none) t).map (zmZ ts gr c m)).sum;rw [((zc3 k).mem t ht).1]
def zmV:(zaH ts gr c L).length=zmZ ts gr c L []:=by
 have:=ziF (ts:=ts) (gr:=gr) (c:=c) L 0;rw [yc1] at this;rw [this];simp [zaH]
structure SeamOk(ts:Z2)(L c:Nat)(t:List Int)(s:Z4):Prop where
 len:s.length=c+2
 west:s.getD 0 none=if t.length % c=0 then none else some (zbf ts (t.getLastD 0) 1)
 north:∀j,j<c->s.getD (1+j) none=if t.length+j<c\/L<=t.length+j then none else some (zbf ts (t.getD (t.length+j-c) 0) 2)
def SeamOk.first:SeamOk ts L c [] (List.replicate (c+2) none) where
 len:=yaC ..
 west:=by simp [yab,ya7]
 north:=fun j hj=>by
  rw [if_pos (.inl (by simpa using hj))];rw [yab,ya7]
  split<;>rfl
theorem SeamOk.next(h:SeamOk ts L c t s)(hc:1<=c):SeamOk ts L c (t++[x]) (zhN ts L c false t.length s x) where
 len:=znm hc h.len
 west:=by
  rw [yah,yaN];show (if (t.length+1) % c=0 then none else some (zbf ts x 1))=_;simp [ybq]
 north:=fun j hj=>by
  have hm:((s.drop 2).dropLast).length=c-1:=by rw [ycD,ybG,h.len];omega
  rw [yah,yaN];show ((if (t.length+1) % c=0 then none else some (zbf ts x 1))::((s.drop 2).dropLast++[if L<=t.length+c then none else some (zbf ts x 2),if false&&!decide ((t.length+1) % c=0) then crO ts c t.length s x else none])).getD (1+j) none=_;rw [show 1+j=j+1 by omega,List.getD_cons_succ]
  by_cases hl:j<c-1
  ·rw [yab,yax (by rw [hm];exact hl),List.getElem?_dropLast,if_pos (by rw [ybG,h.len];omega),ybb,<-yab];have hn:=h.north (j+1) (by omega);rw [show 2+j=1+(j+1) by omega,hn];rw [show t.length+1+j=t.length+(j+1) by omega]
   by_cases z:t.length+(j+1)<c\/L<=t.length+(j+1)
   ·rw [if_pos z,if_pos z]
   ·rw [if_neg z,if_neg z,zke,if_pos (by omega)]
  ·have hj':j=c-1:=by omega
   subst hj';rw [yab,yap (by rw [hm];exact yam _),hm,ybw];show (if L<=t.length+c then none else some (zbf ts x 2))=_
   have e:(t++[x]).getD (t.length+1+(c-1)-c) 0=x:=by
    rw [zke,show t.length+1+(c-1)-c=t.length by omega,if_neg (ya2 _),if_pos rfl]
   rw [e,show t.length+1+(c-1)=t.length+c by omega]
   have:¬ t.length+c<c:=by omega
   simp [this]
theorem zkl(h:SeamOk ts L c t s)(hc:1<=c)(hL:t.length<L):zkm ts c false t.length s x=zi0 ts c t x:=by
 unfold zkm zi0;have h1:=h.north 0 (by omega);rw [Nat.add_zero,Nat.add_zero] at h1;rw [h.west,h1]
 have hL':¬ L<=t.length:=by omega
 simp only [Bool.not_false,Bool.true_or,Bool.and_true];rw [ybj,yac,ybk]
 have a:okO (if t.length % c=0 then none else some (zbf ts (t.getLastD 0) 1)) (zbf ts x 3)=true↔(0<t.length % c->zbf ts (t.getLastD 0) 1=zbf ts x 3):=by
  by_cases z:t.length % c=0
  ·rw [if_pos z];simp [okO,z]
  ·rw [if_neg z]
   have z':0<t.length % c:=by omega
   simp [okO,z']
 have b:okO (if t.length<c\/L<=t.length then none else some (zbf ts (t.getD (t.length-c) 0) 2)) (zbf ts x 0)=true↔(c<=t.length->zbf ts (t.getD (t.length-c) 0) 2=zbf ts x 0):=by
  by_cases z:t.length<c
  ·rw [if_pos (.inl z)]
   have z':¬ c<=t.length:=by omega
   simp [okO,z']
  ·have z':c<=t.length:=by omega
   rw [if_neg (by simp only [not_or];exact ⟨z,hL'⟩)];simp [okO,z']
 rw [a,b]
theorem zgA(ho:∀x,o=some x->0<=x/\x<ts.length):(zcF ts).filter (fun x=>okO o x&&p x)=(zje ts o).filter p:=by
 cases o with
 | none =>
  show (zcF ts).filter (fun x=>true&&p x)=(zcF ts).filter p;simp
 | some y =>
  obtain ⟨y0,y1⟩:=ho y rfl
  have e:(zcF ts).filter (fun x=>decide (y=x))=[y]:=by
   obtain ⟨n,rfl⟩:=ybl y0
   have hn:n<ts.length:=by omega
   unfold zcF;rw [ych]
   have hf:(List.range ts.length).filter ((fun x=>decide ((n:Int)=x))∘fun (i:Nat)=>(i:Int))=[n]:=by
    have:((fun x=>decide ((n:Int)=x))∘fun (i:Nat)=>(i:Int))=fun i=>decide (i=n):=by
     funext i;simp only [Function.comp];congr 1;exact propext ⟨fun z=>by omega,fun z=>by omega⟩
    rw [this];generalize ts.length=N at hn;clear y1
    induction N with
    | zero=>omega
    | succ N ih =>
     rw [ya5,List.filter_append]
     by_cases z:n<N
     ·rw [ih z]
      have:¬ N=n:=by omega
      simp [this]
     ·have:N=n:=by omega
      subst this
      have h0:(List.range N).filter (fun i=>decide (i=N))=[]:=by
       rw [ycp];intro i hi;have:=yaI.mp hi;simp;omega
      rw [h0];simp
   rw [hf];rfl
  show (zcF ts).filter (fun x=>decide (y=x)&&p x)=[y].filter p;rw [<-e,yck];congr 1;funext x;exact Bool.and_comm _ _
theorem zgW(hc:1<=c)(hg:∀o∈gr,∀x,o=some x->0<=x/\x<ts.length):∀m t s,SeamOk ts gr.length c t s->t.length+m=gr.length->zbH ts gr c false m t.length s=zmZ ts gr c m t
 | 0,_,_,_,_=>rfl
 | m+1,t,s,h,hl=>by
  have hk:t.length<gr.length:=by omega
  have ho:∀x,gr.getD t.length none=some x->0<=x/\x<ts.length:=by
   rw [yab,yaa hk];exact hg _ (yaS hk)
  show ((chs ts gr c false t.length s).map fun p=>zbH ts gr c false m (t.length+1) p.2).sum=((zdx ts c (gr.getD t.length none) t).map (zmZ ts gr c m)).sum;unfold chs zdx;rw [zgA ho,yaK,yaK]
  have e:(zje ts (gr.getD t.length none)).filter (zkm ts c false t.length s)=(zje ts (gr.getD t.length none)).filter (zi0 ts c t):=by
   congr 1;funext x;exact zkl h hc hk
  rw [e];congr 1;apply ybB;intro x _;show zbH ts gr c false m (t.length+1) (zhN ts gr.length c false t.length s x)=zmZ ts gr c m (t++[x]);have:=zgW hc hg m (t++[x]) _ (h.next (x:=x) hc) (by rw [yah,yaN];omega);rwa [yah,yaN] at this
def zeM(hg:InT ts g):∀o∈zao r c g,∀x,o=some x->0<=x/\x<ts.length:=by
 intro o ho x hx;obtain ⟨i,_,ho⟩:=ybf.mp ho;obtain ⟨j,_,rfl⟩:=yat.mp ho;exact hg i j x hx
def zeW(hc:1<=c)(hg:InT ts g):znE ts r c g false=(zaH ts (zao r c g) c (r*c)).length:=by
 rw [zmV];unfold znE;exact zgW hc (zeM hg) (r*c) [] _ (by rw [zaL];exact SeamOk.first) (by rw [zaL];simp)
variable{ts:Z2}{os:List Int}{r c:Nat}{g:Z1}{S:Sto}
def ztG(h:Ord ts.length os)(t:TOk ts):TOk (newT ts os):=⟨fun x hx=>t.four x (zqT h hx),by rw [zcs h];exact t.le⟩
def zmk:zao r c (mvG os g)=(zao r c g).map (Option.map (inv os)):=by
 unfold zao mvG;rw [ybI];congr 1;funext i;rw [yaK];rfl
def zqM(h:Ord ts.length os){o:Option Int}(ho:∀x,o=some x->0<=x/\x<ts.length){x:Int}(hx:0<=x/\x<ts.length):okO (o.map (inv os)) (inv os x)=okO o x:=by
 cases o with
 | none=>rfl
 | some a =>
  show decide (inv os a=inv os x)=decide (a=x);rw [ybH];exact ⟨fun e=>h.inv_inj (ho a rfl) hx e,fun e=>by rw [e]⟩
theorem zrn(h:Ord ts.length os)(hc:1<=c){t:List Int}(ht:∀x∈t,0<=x/\x<ts.length){x:Int}(hx:0<=x/\x<ts.length):zi0 (newT ts os) c (t.map (inv os)) (inv os x)=zi0 ts c t x:=by
 unfold zi0;rw [ybH,yae]
 have e1:0<t.length % c->zbf (newT ts os) ((t.map (inv os)).getLastD 0) 1=zbf ts (t.getLastD 0) 1:=by
  intro hl
  have hne:t≠[]:=by rintro rfl;simp at hl
  have hm:(t.map (inv os)).getLastD 0=inv os (t.getLastD 0):=by
   rw [ybq,ybq,List.getLast?_map,List.getLast?_eq_some_getLast hne];rfl
  rw [hm,zdy h (ht _ (zox hne))]
 have e2:c<=t.length->zbf (newT ts os) ((t.map (inv os)).getD (t.length-c) 0) 2=zbf ts (t.getD (t.length-c) 0) 2:=by
  intro hl
  have hk:t.length-c<t.length:=by omega
  have hm:(t.map (inv os)).getD (t.length-c) 0=inv os (t.getD (t.length-c) 0):=by
   rw [yab,yal,yab,yaa hk];rfl
  have hi:t.getD (t.length-c) 0∈t:=by
   rw [yab,yaa hk];exact yaS _
  rw [hm,zdy h (ht _ hi)]
 rw [zdy h hx,zdy h hx];constructor
 ·rintro ⟨a,b⟩;exact ⟨fun z=>by rw [<-e1 z];exact a z,fun z=>by rw [<-e2 z];exact b z⟩
 ·rintro ⟨a,b⟩;exact ⟨fun z=>by rw [e1 z];exact a z,fun z=>by rw [e2 z];exact b z⟩
end S2
namespace S2
open PySem
open L2 hiding D
theorem zrw{α:Type}{l:List α}{n:Nat}:zeS l (some (n:Int)) none=l.drop n:=by
 unfold zeS;rw [HT.zeX];simp [HT.sIx]
 by_cases h:n<=l.length
 ·rw [ybs h];exact ybC (by simp)
 ·rw [ybR (show l.length<=n by omega),ybR (by omega)];simp
def zun{α:Type}{l:List α}(h:n<=l.length):zeS l none (some (n:Int))=l.take n:=by
 unfold zeS;rw [HT.zeX];simp [HT.sIx,ybs h]
noncomputable def zeE(g:Z1)(i j:Nat)(o:Option Int):Nat->Nat->Option Int:=fun a b=>if a=i/\b=j then o else g a b
def zqq:(zcS c g).set j (oD o)=zcS c fun b=>if b=j then o else g b:=by
 apply ya9;intro k
 by_cases hk:k<c
 ·rw [zdM hk]
  by_cases e:j=k
  ·subst e;rw [yaG (by rw [zey];exact hk),if_pos rfl]
  ·rw [yaQ e,zdM hk,if_neg (fun z=>e z.symm)]
 ·rw [yav (by rw [yaR,zey];omega),yav (by rw [zey];omega)]
def zrk:(zca r c g).set i (zeu c fun b=>if b=j then o else g i b)=zca r c (zeE g i j o):=by
 apply ya9;intro k
 by_cases hk:k<r
 ·rw [zcH hk]
  by_cases e:i=k
  ·subst e;rw [yaG (by rw [zdT];exact hk)];congr 3;funext b;unfold zeE
   by_cases z:b=j<;>simp [z]
  ·rw [yaQ e,zcH hk];congr 3;funext b;unfold zeE;rw [if_neg (fun z=>e z.1.symm)]
 ·rw [yav (by rw [yaR,zdT];omega),yav (by rw [zdT];omega)]
theorem zm4{α:Type}{l:List α}{x:α}(h:j<l.length):zeS l none (some (j:Int))++x::zeS l (some ((j:Int)+1)) none=l.set j x:=by
 rw [zun (by omega),show ((j:Int)+1)=((j+1:Nat):Int) by omega,zrw,List.set_eq_take_append_cons_drop,if_pos h]
theorem zcp(hi:i<r)(hj:j<c)(hr:r<=100)(hc:c<=100):zbo [flr r c g,plD i j,oD o] S=.ok (flr r c (zeE g i j o)) S:=by
 have e0:atI (zca r c g) (i:Int)=some (zeu c (g i)):=by rw [zci,zcH hi]
 have e1:zeS (zcS c (g i)) none (some (j:Int))++oD o::zeS (zcS c (g i)) (some ((j:Int)+1)) none=zcS c fun b=>if b=j then o else g i b:=by rw [zm4 (by rw [zey];exact hj),zqq]
 have e2:zeS (zca r c g) none (some (i:Int))++(zeu c fun b=>if b=j then o else g i b)::zeS (zca r c g) (some ((i:Int)+1)) none=zca r c (zeE g i j o):=by rw [zm4 (by rw [zdT];exact hi),zrk]
 have l1:=congrArg List.length e1;have l2:=congrArg List.length e2;rw [yah,yai,zey] at l1;rw [yah,yai,zdT] at l2;unfold flr;rw [<-e2];unfold zeu at e0 ⊢;rw [<-e1];generalize q1:zeS (zcS c (g i)) none (some (j:Int))=a1 at *;generalize q2:zeS (zcS c (g i)) (some ((j:Int)+1)) none=a2 at *;generalize q3:zeS (zca r c g) none (some (i:Int))=b1 at *;generalize q4:zeS (zca r c g) (some ((i:Int)+1)) none=b2 at *
 have p1:a1.length+1<=100000:=by omega
 have p2:a1.length+1+a2.length<=100000:=by omega
 have p3:b1.length+1<=100000:=by omega
 have p4:b1.length+1+b2.length<=100000:=by omega
 simp [zbo,zal,zdc,plD,e0,q1,q2,q3,q4,p1,p2,p3,p4]
@[simp] def zzf:zuY (.bl x) (.bl y)=some (.bl (decide (x=y))):=(rfl)
def zf1(Iv:Nat->Env->Sto->Prop)(step:∀k d ρ S,ds[k]?=some d->Iv k ρ S->∃ρ1 ρ2 S2,tg.put ρ d=some ρ1/\body ρ1 S=.nx ρ2 S2/\Iv (k+1) ρ2 S2)(h0:Iv 0 ρ S):∃ρ' S',zf2 tg body ds ρ S=.nx ρ' S'/\Iv ds.length ρ' S':=by
 have go:∀(n:Nat) (es:List D) (k:Nat) (ρ:Env) (S:Sto),es.length=n->ds.drop k=es->k+n=ds.length->Iv k ρ S->∃ρ' S',zf2 tg body es ρ S=.nx ρ' S'/\Iv ds.length ρ' S':=by
  intro n
  induction n with
  | zero =>
   intro es k ρ S hl he hk hi;obtain rfl:es=[]:=ybe hl;exact ⟨ρ,S,rfl,by rw [show ds.length=k by omega];exact hi⟩
  | succ n ih =>
   intro es k ρ S hl he hk hi
   cases es with
   | nil=>cases hl
   | cons d es =>
    have hd:ds[k]?=some d:=by
     have:=congrArg (fun l=>l[0]?) he;rw [ybb] at this;simpa using this
    obtain ⟨ρ1,ρ2,S2,e1,e2,hi2⟩:=step k d ρ S hd hi;obtain ⟨ρ',S',e3,e4⟩:=ih es (k+1) ρ2 S2 (by simpa using hl) (by rw [<-List.drop_drop,he];rfl) (by omega) hi2;refine ⟨ρ',S',?_,e4⟩;unfold zf2;rw [e1];dsimp only;rw [e2];exact e3
 exact go ds.length ds 0 ρ S rfl (by simp) (by omega) h0
theorem zgS:∀{ds:List D},(∀d∈ds,∀S,∃ρ1 S',tg.put ρ0 d=some ρ1/\elt ρ1 S=.ok (g d) S')->∀S,∃S',zbm tg zdq elt ρ0 ds S=.ok (ds.map g) S'
 | [],_,S=>⟨S,rfl⟩
 | d::ds,h,S=>by
  obtain ⟨ρ1,S1,e1,e2⟩:=h d yaw S;obtain ⟨S2,e3⟩:=zgS (ds:=ds) (fun x hx=>h x (yao _ hx)) S1;refine ⟨S2,?_⟩;unfold zbm;rw [e1];simp [e2,e3]
theorem zfE(h1:1<=r)(hi:i<r)(hj:j<c):za7 [flr r c g,plD i j] S=.ok .non S:=by
 have hp:zbi [flr r c g,plD i j] S=.ok (.bl true) S:=by rw [zc7 h1];congr 3;simp;omega
 simp [za7,zal,zcb,hp]
def zi8(h:∀x,o=some x->0<=x/\x<ts.length):zbT [.tup ts,oD o] S=.ok (.bl true) S:=by
 have e:=zba (ts:=ts) (o:=o) (S:=S) h
 cases o with
 | none=>simp [zbT,zal,zc4,oD]
 | some x =>
  simp only [oD] at e;simp [zbT,zal,zc4,oD,e]
def zev{ts:Z2}{r c i j:Nat}{g:Z1}{o:Option Int}{S:Sto}(h:∀x,o=some x->0<=x/\x<ts.length)(h1:1<=r)(hi:i<r)(hj:j<c)(hr:r<=100)(hc:c<=100):zcq [.tup (ts.map zad),flr r c g,plD i j,oD o] S=.ok (flr r c (zeE g i j o)) S:=by
 have e1:=zfE (g:=g) (S:=S) h1 hi hj;have e2:=zi8 (ts:=ts.map zad) (o:=o) (S:=S) (fun x hx=>by simpa using h x hx);have e3:=zcp (g:=g) (o:=o) (S:=S) hi hj hr hc;generalize flr r c g=fl at *;generalize flr r c (zeE g i j o)=fl' at *;generalize plD i j=pp at *;generalize oD o=od at *;simp [zcq,zal,zej,e1,e2,e3]
noncomputable def zgi(q m:Nat):Prop:=zaQ q m+m*(zaQ q m+q*zaQ q m)<=1000000/\q ^ m<=80000
noncomputable instance{q m:Nat}:Decidable (zgi q m):=by unfold zgi;exact inferInstance
theorem zvM:∀{q:Nat},q<=5->∀{m:Nat},m<=6->zgi q m:=by
 have h:∀q,q<6->∀m,m<7->zgi q m:=by decide
 intro q hq m hm;exact h q (by omega) m (by omega)
structure FP(ts:Z2)(r c:Nat):Prop where
 ht:TOk ts
 h1:1<=ts.length
 h4:zgi ts.length (r*c)
 r1:1<=r
 c1:1<=c
 rc:r*c<=6
def FP.r6(h:FP ts r c):r<=6:=by
 have:=h.rc;have:=h.c1;exact yak (Nat.le_mul_of_pos_right r h.c1) h.rc
def FP.c6(h:FP ts r c):c<=6:=yak (Nat.le_mul_of_pos_left c h.r1) h.rc
theorem zl1(q:Nat)(m:Nat)(h:zgi q m):zaQ q m<=1000000/\q ^ m<=80000:=⟨by have:=h.1;omega,h.2⟩
def zae(ts:Z2)(r c:Nat)(g:Z1):List (List Int):=zaH ts (zao r c g) c (r*c)
section
variable{ts:Z2}{r c:Nat}{g:Z1}
def zdu(P:FP ts r c)(hg:InT ts g)(S:Sto):∃S',zaA [.tup (ts.map zad),flr r c g] S=.ok (.int ((zae ts r c g).length:Nat)) S':=by
 obtain ⟨b1,b2⟩:=zl1 ts.length (r*c) P.h4;obtain ⟨S',e⟩:=zfG (S:=S) P.ht P.h1 hg P.r1 (by have:=P.r6;omega) P.c1 (by have:=P.c6;omega) (by have:=P.rc;omega) (by omega) b1;rw [zeW P.c1 hg] at e;exact ⟨S',e⟩
end
noncomputable def zeG(r c:Nat):List (Nat×Nat):=(List.range r).flatMap fun i=>(List.range c).map fun j=>(i,j)
def zdB:zao r c g=(zeG r c).map fun p=>g p.1 p.2:=by
 unfold zao zeG;rw [ybI];congr 1;funext i;rw [yaK];rfl
noncomputable def LeG(r c:Nat)(g h:Z1):Prop:=∀i j,i<r->j<c->g i j=none\/g i j=h i j
def zpl{ts:Z2}{g:Z1}{i j:Nat}{o:Option Int}(hg:InT ts g)(ho:∀x,o=some x->0<=x/\x<ts.length):InT ts (zeE g i j o):=by
 intro a b x hx;unfold zeE at hx;split at hx
 ·exact ho x hx
 ·exact hg a b x hx
noncomputable def zgj{α:Type}(w:α->Nat):List α->Nat->Option (α×Nat)
 | [],_=>none
 | p::l,q=>if q<w p then some (p,q) else zgj w l (q-w p)
theorem zkh{α β:Type}{f:α->List β}:∀(xs:List α) (q:Nat),(xs.flatMap f)[q]?=(zgj (fun x=>(f x).length) xs q).bind fun p=>(f p.1)[p.2]?
 | [],q=>by simp [zgj]
 | x::xs,q=>by
  rw [yaH];unfold zgj
  by_cases h:q<(f x).length
  ·rw [if_pos h,yax h];rfl
  ·rw [if_neg h,yap (by omega),zkh xs]
theorem zi3{α:Type}{w:α->Nat}{p:α}:∀{l:List α} {q:Nat},zgj w l q=some (p,q')->p∈l/\q'<w p
 | [],q,h=>by cases h
 | x::l,q,h=>by
  unfold zgj at h;split at h
  ·rename_i hq;cases h;exact ⟨yaw,hq⟩
  ·obtain ⟨h1,h2⟩:=zi3 h;exact ⟨yao _ h1,h2⟩
theorem zjN{α:Type}{w:α->Nat}:∀{l:List α} {q:Nat},q<(l.map w).sum->∃p,zgj w l q=some p
 | [],q,h=>by simp at h
 | x::l,q,h=>by
  unfold zgj;rw [yay,ycl] at h;split
  ·exact ⟨_,rfl⟩
  ·exact zjN (by omega)
theorem zlM{α β:Type}{w:β->Nat}{g:α->β}:∀(l:List α) (q:Nat),zgj w (l.map g) q=(zgj (fun x=>w (g x)) l q).map fun p=>(g p.1,p.2)
 | [],q=>rfl
 | x::l,q=>by
  rw [yay];unfold zgj;split
  ·rfl
  ·exact zlM l _
theorem zh1{α:Type}{w w':α->Nat}:∀(l:List α),(∀x∈l,w x=w' x)->∀q,zgj w l q=zgj w' l q
 | [],_,_=>rfl
 | x::l,h,q=>by
  unfold zgj;rw [h x yaw,zh1 l (fun y hy=>h y (yao _ hy))]
def zc1(ts:Z2)(gr:Z4)(c:Nat)(b:Bool):Nat->Nat->List (Option Int)->Nat->Option (List Int)
 | 0,_,_,_=>some []
 | m+1,k,s,q=>(zgj (fun p=>zbH ts gr c b m (k+1) p.2) (chs ts gr c b k s) q).bind fun p=>(zc1 ts gr c b m (k+1) p.1.2 p.2).map (p.1.1::·)
section
variable{n:Nat}{ts:Z2}{gr:Z4}{r c:Nat}{b:Bool}
theorem zuz(C:CfOk n ts gr r c b m zax)(hk:k+1+m=gr.length)(hN:N.length<=1000):∀(cs:List (Int×List (Option Int))) (q:Nat) (S:Sto) (ds:List (D×D)) (s4 s6 s7:Option (Bool×D)),(∀p∈cs,p.2.length=c+2)->zgj (fun p=>zbH ts gr c b m (k+1) p.2) cs q=some (p,q')->WAt S n ts gr r c b ds->zo7 ts gr c b ds->ds.length+cs.length*zaQ ts.length m<=1000000 →
  ∃ds' x6 x7,zf2 (.one 6) za6 (cs.map chD) [some (false,.ref n),s1,some (true,.lst N),some (false,.int q),s4,some (false,.int k),s6,s7] S
   = .nx [some (false,.ref n),s1,some (true,.lst (N++[.int p.1])),some (false,.int q'),some (false,zaP p.2),some (false,.int k),x6,x7] (S.set n (wOb (.tup (ts.map zad)) (.lst (gr.map oD)) (.tup [.int r,.int c]) b ds'))/\zo7 ts gr c b ds'/\ds'.length<=ds.length+cs.length*zaQ ts.length m
 | [],q,S,ds,s4,s6,s7,_,e,_,_,_=>by cases e
 | p0::cs,q,S,ds,s4,s6,s7,hl,e,W,M,hz=>by
  rw [yai,ybX] at hz;obtain ⟨ds1,e1,M1,z1,_⟩:=C.run S ds (k+1) p0.2 W M hk (hl p0 yaw) (by omega);have e1':zax [.ref n,.int ((k:Int)+1),zaP p0.2] S=_:=e1;have mo:=W.meth "count_from" (by decide +kernel);have W1:=W.put ds1
  have hNs:N.length<=100000:=by omega
  have i0:ixD (chD p0) (.int 0)=some (.int p0.1):=rfl;have i1:ixD (chD p0) (.int 1)=some (zaP p0.2):=rfl;unfold zgj at e
  by_cases h:q<zbH ts gr c b m (k+1) p0.2
  ·rw [if_pos h] at e;cases e;refine ⟨ds1,some (false,chD p),some (false,.int (zbH ts gr c b m (k+1) p.2:Nat)),?_,M1,by rw [yai,ybX];omega⟩;rw [yay];unfold zf2;generalize wOb (.tup (ts.map zad)) (.lst (gr.map oD)) (.tup [.int r,.int c]) b ds1=ob at *;generalize zbH ts gr c b m (k+1) p.2=ww at *;generalize chD p=cp at *;generalize zaP p.2=sd at *;simp [za6,mo,i0,i1,e1',h,hNs]
  ·rw [if_neg h] at e;obtain ⟨ds2,x6,x7,e2,M2,z2⟩:=zuz (s1:=s1) C hk hN cs (q-zbH ts gr c b m (k+1) p0.2) _ ds1 s4 (some (false,chD p0)) (some (false,.int (zbH ts gr c b m (k+1) p0.2:Nat))) (fun p hp=>hl p (yao _ hp)) e W1 M1 (by omega);refine ⟨ds2,x6,x7,?_,M2,by rw [yai,ybX];omega⟩;rw [yc2] at e2
   have hq:((q-zbH ts gr c b m (k+1) p0.2:Nat):Int)=(q:Int)-((zbH ts gr c b m (k+1) p0.2:Nat):Int):=by omega
   rw [hq] at e2;rw [yay];unfold zf2;generalize wOb (.tup (ts.map zad)) (.lst (gr.map oD)) (.tup [.int r,.int c]) b ds1=ob at *;generalize zbH ts gr c b m (k+1) p0.2=ww at *;generalize chD p0=cp at *;generalize zaP p0.2=sd at *;simp [za6,mo,i0,i1,e1',h,zqn];exact e2
end
theorem zl0(h:1<=q):∀{m L:Nat},m<=L->zaQ q m<=zaQ q L:=by
 intro m L hml
 have step:∀n,zaQ q n<=zaQ q (n+1):=by
  intro n;show _<=1+q*zaQ q n;have:1*zaQ q n<=q*zaQ q n:=ybu _ h;omega
 induction L with
 | zero=>rw [show m=0 by omega];exact yam _
 | succ L ih =>
  by_cases e:m=L+1
  ·rw [e];exact yam _
  ·exact yak (ih (by omega)) (step L)
def zhc{L k:Nat}{d:D}(h:(zat 0 (L:Int))[k]?=some d):k<L/\d=.int (k:Int):=by
 unfold zat at h;simp only [Int.sub_zero,yaB] at h;rw [yal] at h
 by_cases hk:k<L
 ·rw [yb6 hk] at h;refine ⟨hk,?_⟩;have:=(Option.some.inj h).symm;simpa using this
 ·rw [yav (by simp;omega)] at h;cases h
section
variable{n:Nat}{ts:Z2}{gr:Z4}{r c:Nat}{b:Bool}
theorem zgn(W:WAt S n ts gr r c b ds)(M:zo7 ts gr c b ds)(ht:TOk ts)(h1:1<=ts.length)(hg:∀o∈gr,∀x,o=some x->0<=x/\x<ts.length)(hc:1<=c)(hc2:c<=100)(hm:gr.length<=30)(hp:ts.length ^ gr.length<=1000000)(hz:ds.length+gr.length*(ts.length*zaQ ts.length gr.length)<=1000000)(hq:q<zbH ts gr c b gr.length 0 (List.replicate (c+2) none)) :
  ∃ds' t,zc1 ts gr c b gr.length 0 (List.replicate (c+2) none) q=some t/\zbp [.ref n,.int q] S=.ok (.lst (t.map D.int)) (S.set n (wOb (.tup (ts.map zad)) (.lst (gr.map oD)) (.tup [.int r,.int c]) b ds')):=by
 have e1:=zcK W hc2;have m1:=W.meth "first_seam" (by decide +kernel)
 obtain ⟨ρ',S',e2,t,s,q',ds',x5,x6,x7,rfl,rfl,M',z',hs,ht',hq',hpath⟩:=zf1 (tg:=.one 5) (body:=zbG) (ds:=zat 0 (gr.length:Int)) (fun k ρ S'=>∃(t:List Int) (s:Z4) (q':Nat) (ds':List (D×D)) (x5 x6 x7:Option (Bool×D)),ρ=[some (false,.ref n),some (false,.int q),some (true,.lst (t.map D.int)),some (false,.int q'),some (false,zaP s),x5,x6,x7]/\S'=S.set n (wOb (.tup (ts.map zad)) (.lst (gr.map oD)) (.tup [.int r,.int c]) b ds')/\zo7 ts gr c b ds'/\ds'.length<=ds.length+k*(ts.length*zaQ ts.length gr.length)/\s.length=c+2/\t.length=k/\q'<zbH ts gr c b (gr.length-k) k s/\(zc1 ts gr c b (gr.length-k) k s q').map (t++·)=zc1 ts gr c b gr.length 0 (List.replicate (c+2) none) q) (by
  rintro k d ρ S' hd ⟨t,s,q',ds',x5,x6,x7,rfl,rfl,M',z',hs,ht',hq',hpath⟩;obtain ⟨hk,rfl⟩:=zhc hd;obtain ⟨m,hmk⟩:∃m,gr.length-k=m+1:=⟨gr.length-k-1,by omega⟩;rw [hmk] at hq' hpath;have W':=W.put ds';have C:CfOk n ts gr r c b m zax:=zkx ht h1 hg hc hc2 m 40 (by omega) (yak (Nat.pow_le_pow_right h1 (by omega)) hp);have ech:=zfI (k:=k) (s:=s) W' ht hk hg hc hc2 hs;obtain ⟨⟨p,q2⟩,esel⟩:=zjN (w:=fun p=>zbH ts gr c b m (k+1) p.2) (l:=chs ts gr c b k s) hq';obtain ⟨hpm,hq2⟩:=zi3 esel;have hcl:=zjs (gr:=gr) (c:=c) (b:=b) (k:=k) (s:=s) h1;have hmul:(chs ts gr c b k s).length*zaQ ts.length m<=ts.length*zaQ ts.length gr.length:=ybd hcl (zl0 h1 (by omega));have hkz:(k+1)*(ts.length*zaQ ts.length gr.length)<=gr.length*(ts.length*zaQ ts.length gr.length):=ybu _ hk
  have hk1:(k+1)*(ts.length*zaQ ts.length gr.length)=k*(ts.length*zaQ ts.length gr.length)+ts.length*zaQ ts.length gr.length:=by rw [ybX,Nat.one_mul]
  obtain ⟨ds2,y6,y7,e3,M2,z2⟩:=zuz (s1:=some (false,.int q)) (N:=t.map D.int) C (by omega) (by rw [yae];omega) (chs ts gr c b k s) q' _ ds' (some (false,zaP s)) x6 x7 (zhA hc hs) esel W' M' (by omega);rw [yc2] at e3;have mo:=W'.meth "choices" (by decide +kernel);refine ⟨_,_,_,rfl,?_,t++[p.1],p.2,q2,ds2,some (false,.int k),y6,y7,rfl,rfl,M2,by omega,zhA hc hs p hpm,by rw [yah,ht'];rfl,by rw [show gr.length-(k+1)=m by omega];exact hq2,?_⟩
  ·have em:(t++[p.1]).map D.int=t.map D.int++[D.int p.1]:=by rw [ybV];rfl
   rw [em];generalize wOb (.tup (ts.map zad)) (.lst (gr.map oD)) (.tup [.int r,.int c]) b ds'=ob at *;generalize wOb (.tup (ts.map zad)) (.lst (gr.map oD)) (.tup [.int r,.int c]) b ds2=ob2 at *;generalize (chs ts gr c b k s).map chD=cs at *;generalize zaP s=sd at *;generalize zaP p.2=sp at *;simp [zbG,mo,ech,e3]
  ·rw [<-hpath,show gr.length-(k+1)=m by omega];show _=Option.map (t++·) ((zgj (fun p=>zbH ts gr c b m (k+1) p.2) (chs ts gr c b k s) q').bind fun p=>(zc1 ts gr c b m (k+1) p.1.2 p.2).map (p.1.1::·));rw [esel];show _=Option.map (t++·) ((zc1 ts gr c b m (k+1) p.2 q2).map (p.1::·))
   cases zc1 ts gr c b m (k+1) p.2 q2 with
   | none=>rfl
   | some u=>simp)
  (ρ:=[some (false,.ref n),some (false,.int q),some (true,.lst []),some (false,.int q),some (false,zaP (List.replicate (c+2) none)),none,none,none]) (S:=S) ⟨[],List.replicate (c+2) none,q,ds,none,none,none,rfl,(zfo W.at_).symm,M,by omega,yaC ..,rfl,hq,by
   show Option.map (fun x=>[]++x) (zc1 ts gr c b gr.length 0 _ q)=_
   cases zc1 ts gr c b gr.length 0 (List.replicate (c+2) none) q<;>rfl⟩
 have hL:(zat 0 (gr.length:Int)).length=gr.length:=by unfold zat;simp
 rw [hL,ybw] at hpath
 have hpath':zc1 ts gr c b gr.length 0 (List.replicate (c+2) none) q=some t:=by
  rw [<-hpath];show some (t++[])=some t;rw [yaX]
 refine ⟨ds',t,hpath',?_⟩
 have hgl:-1000000<=(gr.length:Int)/\(gr.length:Int)<=1000000:=by omega
 have eg:=W.ground;generalize wOb (.tup (ts.map zad)) (.lst (gr.map oD)) (.tup [.int r,.int c]) b ds'=ob at *;generalize zaP (List.replicate (c+2) none)=sd at *;generalize t.map D.int=td at *;simp [zbp,zal,zb6,m1,e1,eg,hgl,e2]
end
def xsT(ts:Z2)(c:Nat)(o:Option Int)(t:List Int):List Int:=(zcF ts).filter fun x=>okO o x&&zi0 ts c t x
def zkL(ts:Z2)(gr:Z4)(c:Nat):Nat->List Int->List (List Int)
 | 0,_=>[[]]
 | m+1,t=>(xsT ts c (gr.getD t.length none) t).flatMap fun x=>(zkL ts gr c m (t++[x])).map (x::·)
theorem zdU{α β:Type}{f g:α->List β}:∀{l:List α},(∀x∈l,f x=g x)->l.flatMap f=l.flatMap g
 | [],_=>rfl
 | x::l,h=>by rw [yaH,yaH,h x yaw,zdU fun y hy=>h y (yao _ hy)]
section
variable{ts:Z2}{gr:Z4}{c:Nat}
theorem zjJ:∀m t,(zkL ts gr c m t).length=zmZ ts gr c m t
 | 0,_=>rfl
 | m+1,t=>by
  show ((xsT ts c (gr.getD t.length none) t).flatMap _).length=((zdx ts c (gr.getD t.length none) t).map (zmZ ts gr c m)).sum;unfold zdx;rw [List.length_flatMap,yaK];congr 1;apply ybB;intro x _;show ((zkL ts gr c m (t++[x])).map (x::·)).length=zmZ ts gr c m (t++[x]);rw [yae,zjJ m]
theorem zgL:∀m k,zaH ts gr c (k+m)=(zaH ts gr c k).flatMap fun t=>(zkL ts gr c m t).map (t++·)
 | 0,k=>by
  show zaH ts gr c k=_;generalize zaH ts gr c k=F
  induction F with
  | nil=>rfl
  | cons t F ih=>rw [yaH,<-ih];simp [zkL]
 | m+1,k=>by
  rw [show k+(m+1)=(k+1)+m by omega,zgL m (k+1)];show ((zaH ts gr c k).flatMap (zdx ts c (gr.getD k none))).flatMap _=_;rw [List.flatMap_assoc];apply zdU;intro t ht;have hl:=((zc3 k).mem t ht).1;show ((((zcF ts).filter fun x=>okO (gr.getD k none) x&&zi0 ts c t x).map fun x=>t++[x]).flatMap _)=((xsT ts c (gr.getD t.length none) t).flatMap fun x=>(zkL ts gr c m (t++[x])).map (x::·)).map (t++·);rw [hl,yb2,ybI];apply zdU;intro x _;rw [yaK];apply ybB;intro u _;simp
def zmW:zaH ts gr c L=zkL ts gr c L []:=by
 have:=zgL (ts:=ts) (gr:=gr) (c:=c) L 0;rw [yc1] at this;rw [this];simp [zaH]
theorem zil(hc:1<=c)(hg:∀o∈gr,∀x,o=some x->0<=x/\x<ts.length):∀m t s q,SeamOk ts gr.length c t s->t.length+m=gr.length->q<zbH ts gr c false m t.length s->zc1 ts gr c false m t.length s q=(zkL ts gr c m t)[q]?
 | 0,_,_,q,_,_,hq=>by
  have hq':q<1:=hq;rw [show q=0 by omega];rfl
 | m+1,t,s,q,h,hl,hq=>by
  have hk:t.length<gr.length:=by omega
  have ho:∀x,gr.getD t.length none=some x->0<=x/\x<ts.length:=by
   rw [yab,yaa hk];exact hg _ (yaS hk)
  have ex:(zje ts (gr.getD t.length none)).filter (zkm ts c false t.length s)=xsT ts c (gr.getD t.length none) t:=by
   unfold xsT;rw [zgA ho];congr 1;funext x;exact zkl h hc hk
  have wx:∀x,zbH ts gr c false m (t.length+1) (zhN ts gr.length c false t.length s x)=(zkL ts gr c m (t++[x])).length:=by
   intro x;have:=zgW hc hg m (t++[x]) _ (h.next (x:=x) hc) (by rw [yah,yaN];omega);rw [yah,yaN] at this;rw [this,zjJ]
  show ((zgj (fun p=>zbH ts gr c false m (t.length+1) p.2) (chs ts gr c false t.length s) q).bind fun p=>(zc1 ts gr c false m (t.length+1) p.1.2 p.2).map (p.1.1::·))=((xsT ts c (gr.getD t.length none) t).flatMap fun x=>(zkL ts gr c m (t++[x])).map (x::·))[q]?;rw [zkh];unfold chs;rw [ex,zlM];have ec:=zh1 (w:=fun x=>zbH ts gr c false m (t.length+1) (zhN ts gr.length c false t.length s x)) (w':=fun x=>((zkL ts gr c m (t++[x])).map (x::·)).length) (xsT ts c (gr.getD t.length none) t) (fun x _=>by rw [yae];exact wx x) q;show ((zgj (fun x=>zbH ts gr c false m (t.length+1) (zhN ts gr.length c false t.length s x)) (xsT ts c (gr.getD t.length none) t) q).map fun p=>((p.1,zhN ts gr.length c false t.length s p.1),p.2)).bind _=_;rw [ec]
  cases hs:zgj (fun x=>((zkL ts gr c m (t++[x])).map (x::·)).length) (xsT ts c (gr.getD t.length none) t) q with
  | none=>rfl
  | some p =>
   obtain ⟨x,q'⟩:=p;obtain ⟨_,hq2⟩:=zi3 hs;rw [yae] at hq2;show (zc1 ts gr c false m (t.length+1) (zhN ts gr.length c false t.length s x) q').map (x::·)=((zkL ts gr c m (t++[x])).map (x::·))[q']?
   have ih:=zil hc hg m (t++[x]) _ q' (h.next (x:=x) hc) (by rw [yah,yaN];omega) (by
    rw [yah,yaN,wx];exact hq2)
   rw [yah,yaN] at ih;rw [ih,yal]
end
def zkY(hc:1<=c)(hg:InT ts g)(hq:q<(zae ts r c g).length):zc1 ts (zao r c g) c false (r*c) 0 (List.replicate (c+2) none) q=(zae ts r c g)[q]?:=by
 have hw:zbH ts (zao r c g) c false (r*c) 0 (List.replicate (c+2) none)=(zae ts r c g).length:=zeW hc hg;have:=zil (ts:=ts) (gr:=zao r c g) (c:=c) hc (zeM hg) (r*c) [] (List.replicate (c+2) none) q (by rw [zaL];exact SeamOk.first) (by rw [zaL];simp) (by show q<zbH ts (zao r c g) c false (r*c) 0 _;rw [hw];exact hq);unfold zae;rw [zmW];exact this
noncomputable def zap(c:Nat)(t:List Int):Nat->Nat->Option Int:=fun i j=>some (t.getD (i*c+j) 0)
theorem zrv{t:List Int}{r c i:Nat}(hl:t.length=r*c)(hi:i<r):zeS (t.map D.int) (some ((i:Int)*(c:Int))) (some (((i:Int)+1)*(c:Int)))=zcS c (zap c t i):=by
 have h1:i*c+c<=r*c:=by
  have:=ybu c (show i+1<=r by omega);rwa [yb9] at this
 unfold zeS;rw [show (i:Int)*(c:Int)=((i*c:Nat):Int) by rw [Int.natCast_mul],show ((i:Int)+1)*(c:Int)=((i*c+c:Nat):Int) by rw [Int.add_mul,Int.one_mul,Int.natCast_add,Int.natCast_mul],HT.zeX,HT.zeX,yae,hl];rw [ybs h1,ybs (show i*c<=r*c by omega),show i*c+c-i*c=c by omega];apply ya9;intro j;rw [ycg]
 by_cases hj:j<c
 ·rw [if_pos hj,ybb,zdM hj,yal,yaa (by omega)];simp [oD,zap,yab,yaa (show i*c+j<t.length by omega)]
 ·rw [if_neg hj,yav (by simp [zcS];omega)]
theorem zja{t:List Int}{r c:Nat}{S:Sto}(hl:t.length=r*c)(hc:c<=100)(hr:r<=100):zeD [.lst (t.map D.int),.tup [.int r,.int c]] S=.ok (flr r c (zap c t)) S:=by
 have fc:zbL (c:Int)=true:=zkq (by omega) (by omega)
 have ec:=zaK (tg:=.one 0) (elt:=zaq zbI [(eSl (zai 1) (some (zah zgC (zai 0) (zah ixD (zai 2) (zag (.int 1))))) (some (zah zgC (zah zcn (zai 0) (zag (.int 1))) (zah ixD (zai 2) (zag (.int 1))))))]) (ρ0:=[none,some (false,.lst (t.map D.int)),some (false,.tup [.int r,.int c])]) (S:=S) (g:=fun d=>match d with | .int i=>zeu c (zap c t i.toNat) | _=>.non) (ds:=zat 0 (r:Int)) (by
  intro d hd;obtain ⟨k,hk⟩:=List.getElem?_of_mem hd;obtain ⟨hi,rfl⟩:=zhc hk;refine ⟨_,rfl,?_⟩;have e:=zrv hl hi;show _=Out.ok (D.tup (zcS c (zap c t ((k:Int).toNat)))) S;rw [yaB];generalize zcS c (zap c t k)=res at *;generalize t.map D.int=td at *
  simp [fc,e])
 have er:(zat 0 (r:Int)).map (fun d=>match d with | .int i=>zeu c (zap c t i.toNat) | _=>.non)=zca r c (zap c t):=by
  unfold zat zca;simp only [Int.sub_zero,yaB,yaK];apply ybB;intro i _;simp
 rw [er] at ec
 have hl2:(zca r c (zap c t)).length<=100000:=by rw [zdT];omega
 have hr2:-1000000<=(r:Int)/\(r:Int)<=1000000:=by omega
 unfold flr;generalize zca r c (zap c t)=res at *;generalize t.map D.int=td at *;simp [zeD,zal,zgc,hr2,ec,hl2]
section
variable{n:Nat}{ts:Z2}{gr:Z4}{r c:Nat}{b:Bool}{S:Sto}
def zgo(W:WAt S n ts gr r c b [])(ht:TOk ts)(h1:1<=ts.length)(hg:∀o∈gr,∀x,o=some x->0<=x/\x<ts.length)(hc:1<=c)(hc2:c<=100)(hm:gr.length<=30)(hp:ts.length ^ gr.length<=1000000)(hq:zaQ ts.length gr.length<=1000000) :
  ∃ds',zaG [.ref n] S=.ok (.int (zbH ts gr c b gr.length 0 (List.replicate (c+2) none))) (S.set n (wOb (.tup (ts.map zad)) (.lst (gr.map oD)) (.tup [.int r,.int c]) b ds'))/\zo7 ts gr c b ds'/\ds'.length<=zaQ ts.length gr.length:=by
 obtain ⟨ds',e,M,z,_⟩:=(zkx (n:=n) (r:=r) (b:=b) ht h1 hg hc hc2 gr.length 40 (by omega) hp).run S [] 0 (List.replicate (c+2) none) W (fun k s d h=>by cases h) (by omega) (yaC ..) (by simpa using hq);refine ⟨ds',?_,M,by simpa using z⟩;have e':zax [.ref n,.int 0,zaP (List.replicate (c+2) none)] S=_:=e;have e2:=zcK W hc2;have m1:=W.meth "count_from" (by decide +kernel);have m2:=W.meth "first_seam" (by decide +kernel);generalize wOb (.tup (ts.map zad)) (.lst (gr.map oD)) (.tup [.int r,.int c]) b ds'=ob at *;simp [zaG,zal,zbC,m1,m2,e2,e']
theorem zh4(W:WAt S n ts gr r c b [])(ht:TOk ts)(h1:1<=ts.length)(hg:∀o∈gr,∀x,o=some x->0<=x/\x<ts.length)(hc:1<=c)(hc2:c<=100)(hr:r<=100)(hrc:gr.length=r*c)(hm:gr.length<=30)(hp:ts.length ^ gr.length<=1000000)(hz:zaQ ts.length gr.length+gr.length*(ts.length*zaQ ts.length gr.length)<=1000000) :
  ∃S',zaV [.ref n,.int q] S=(if 0<=q/\q<zbH ts gr c b gr.length 0 (List.replicate (c+2) none) then .ok (flr r c (zap c ((zc1 ts gr c b gr.length 0 (List.replicate (c+2) none) q.toNat).getD []))) S' else .exc "NoFill" S'):=by
 obtain ⟨ds',e1,M,z⟩:=zgo W ht h1 hg hc hc2 hm hp (by omega);have m1:=W.meth "count_all" (by decide +kernel)
 by_cases h0:0<=q
 ·by_cases hN:q<zbH ts gr c b gr.length 0 (List.replicate (c+2) none)
  ·obtain ⟨q',rfl⟩:=ybl h0;have W':=W.put ds'
   have hq':q'<zbH ts gr c b gr.length 0 (List.replicate (c+2) none):=by omega
   obtain ⟨ds2,t,et,e2⟩:=zgn (q:=q') W' M ht h1 hg hc hc2 hm hp (by omega) hq';rw [yc2] at e2;have W2:=W.put ds2;have es:=W2.size;have m2:=W'.meth "numbers_by" (by decide +kernel)
   have htl:t.length=gr.length:=by
    have:∀m k s q t,zc1 ts gr c b m k s q=some t->t.length=m:=by
     intro m
     induction m with
     | zero=>intro k s q t h;cases h;rfl
     | succ m ih =>
      intro k s q t h;unfold zc1 at h
      cases hs:zgj (fun p=>zbH ts gr c b m (k+1) p.2) (chs ts gr c b k s) q with
      | none=>rw [hs] at h;cases h
      | some p =>
       rw [hs] at h
       cases hp:zc1 ts gr c b m (k+1) p.1.2 p.2 with
       | none =>
        have h':(zc1 ts gr c b m (k+1) p.1.2 p.2).map (p.1.1::·)=some t:=h;rw [hp] at h';cases h'
       | some u =>
        have h':(zc1 ts gr c b m (k+1) p.1.2 p.2).map (p.1.1::·)=some t:=h;rw [hp] at h';cases h';rw [yai,ih _ _ _ _ hp]
    exact this _ _ _ _ _ et
   have er:=zja (t:=t) (r:=r) (c:=c) (S:=S.set n (wOb (.tup (ts.map zad)) (.lst (gr.map oD)) (.tup [.int r,.int c]) b ds2)) (by omega) hc2 hr;refine ⟨S.set n (wOb (.tup (ts.map zad)) (.lst (gr.map oD)) (.tup [.int r,.int c]) b ds2),?_⟩;rw [if_pos ⟨h0,hN⟩,yaB,et];show _=Out.ok (flr r c (zap c t)) _;have hlt:q'<zbH ts gr c b gr.length 0 (List.replicate (c+2) none):=hq';generalize zbH ts gr c b gr.length 0 (List.replicate (c+2) none)=ww at *;generalize wOb (.tup (ts.map zad)) (.lst (gr.map oD)) (.tup [.int r,.int c]) b ds'=ob1 at *;generalize wOb (.tup (ts.map zad)) (.lst (gr.map oD)) (.tup [.int r,.int c]) b ds2=ob2 at *;generalize flr r c (zap c t)=fl at *;generalize t.map D.int=td at *;simp [zaV,zal,zbl,m1,e1,hlt,m2,e2,es,er]
  ·refine ⟨S.set n (wOb (.tup (ts.map zad)) (.lst (gr.map oD)) (.tup [.int r,.int c]) b ds'),?_⟩;rw [if_neg (fun z=>hN z.2)];generalize zbH ts gr c b gr.length 0 (List.replicate (c+2) none)=ww at *;generalize wOb (.tup (ts.map zad)) (.lst (gr.map oD)) (.tup [.int r,.int c]) b ds'=ob1 at *;simp [zaV,zal,zbl,m1,e1,hN,h0]
 ·refine ⟨S,?_⟩;rw [if_neg (fun z=>h0 z.1)];simp [zaV,zal,zbl,h0]
end
theorem zn0(q m:Nat)(h:zgi q m):zaQ q m+m*(q*zaQ q m)<=1000000:=by
 have h1:=h.1;have:m*(q*zaQ q m)<=m*(zaQ q m+q*zaQ q m):=Nat.mul_le_mul_left _ (Nat.le_add_left _ _);omega
theorem zjQ(P:FP ts r c)(hg:InT ts g)(q:Int)(S:Sto) :
  ∃S',zfK [.tup (ts.map zad),flr r c g,.int q] S=(if 0<=q/\q<((zae ts r c g).length:Int) then .ok (flr r c (zap c ((zae ts r c g).getD q.toNat []))) S' else .exc "NoFill" S'):=by
 obtain ⟨b1,b2⟩:=zl1 ts.length (r*c) P.h4;have b3:=zn0 ts.length (r*c) P.h4;have r6:=P.r6;have c6:=P.c6;have e1:=zjO (T:=.tup (ts.map zad)) (b:=false) (S:=S) (g:=g) (c:=c) P.r1 (show r<=100 by omega) (show c<=100 by omega);have W:WAt (S++[wOb (.tup (ts.map zad)) (.lst ((zao r c g).map oD)) (.tup [.int r,.int c]) false []]) S.length ts (zao r c g) r c false []:=⟨by rw [yap (yam _),ybw];rfl⟩;have gl:=zaL (r:=r) (c:=c) (g:=g);have rc:=P.rc;obtain ⟨S',e2⟩:=zh4 (q:=q) W P.ht P.h1 (zeM hg) P.c1 (by omega) (by omega) gl (by omega) (by rw [gl];omega) (by rw [gl];exact b3);rw [gl] at e2;have hw:zbH ts (zao r c g) c false (r*c) 0 (List.replicate (c+2) none)=(zae ts r c g).length:=zeW P.c1 hg;rw [hw] at e2;have m:=W.meth "whole_by" (by decide +kernel);refine ⟨S',?_⟩;have ei:=zec (i:=q) (S:=S)
 by_cases h:0<=q/\q<((zae ts r c g).length:Int)
 ·rw [if_pos h] at e2 ⊢;have hp:=zkY (r:=r) (q:=q.toNat) P.c1 hg (by obtain ⟨x,y⟩:=h;omega);rw [hp,<-yab] at e2;generalize flr r c (zap c ((zae ts r c g).getD q.toNat []))=res at *;generalize wOb (.tup (ts.map zad)) (.lst ((zao r c g).map oD)) (.tup [.int r,.int c]) false []=ob at *;generalize flr r c g=fl at *;simp [zfK,zal,zkp,ei,e1,m,e2]
 ·rw [if_neg h] at e2 ⊢;generalize wOb (.tup (ts.map zad)) (.lst ((zao r c g).map oD)) (.tup [.int r,.int c]) false []=ob at *;generalize flr r c g=fl at *;simp [zfK,zal,zkp,ei,e1,m,e2]
noncomputable def agN(gr:Z4)(k:Nat)(t:List Int):Bool:=(List.range k).all fun i=>okO (gr.getD i none) (t.getD i 0)
def zo6:agN gr (k+1) t=(agN gr k t&&okO (gr.getD k none) (t.getD k 0)):=by
 unfold agN;rw [ya5,List.all_append];simp
def zrT(h:k<=t.length):agN gr k (t++u)=agN gr k t:=by
 unfold agN;rw [ybj,ya1,ya1]
 have e:∀i∈List.range k,(t++u).getD i 0=t.getD i 0:=fun i hi=>by
  have:=yaI.mp hi;rw [yab,yab,yax (by omega)]
 constructor
 ·intro z i hi;have:=z i hi;rwa [e i hi] at this
 ·intro z i hi;rw [e i hi];exact z i hi
theorem zfh:∀k,zaH ts gr c k=(zaH ts [] c k).filter (agN gr k)
 | 0=>rfl
 | k+1=>by
  show (zaH ts gr c k).flatMap _=((zaH ts [] c k).flatMap _).filter _;rw [zfh k];have hl:∀t∈zaH ts [] c k,t.length=k:=fun t ht=>((zc3 k).mem t ht).1
  generalize zaH ts [] c k=F at hl;have hn:([]:Z4).getD k none=none:=rfl;rw [hn]
  induction F with
  | nil=>rfl
  | cons t F ih =>
   have ih':=ih fun u hu=>hl u (yao _ hu)
   have ht:=hl t yaw;rw [yaH,List.filter_append,<-ih',ycB]
   have key:(zdx ts c none t).filter (agN gr (k+1))=if agN gr k t then zdx ts c (gr.getD k none) t else []:=by
    unfold zdx;rw [ych]
    have ef:(agN gr (k+1)∘fun x=>t++[x])=fun x=>agN gr k t&&okO (gr.getD k none) x:=by
     funext x;show agN gr (k+1) (t++[x])=_;rw [zo6,zrT (by omega)]
     have:(t++[x]).getD k 0=x:=by rw [yab,yap (by omega),ht];simp
     rw [this]
    rw [ef,yck]
    cases ha:agN gr k t with
    | true =>
     simp only [yc8,yb4];rfl
    | false =>
     have:∀l:List Int,l.filter (fun a=>(false&&okO (gr.getD k none) a)&&(okO none a&&zi0 ts c t a))=[]:=by
      intro l;rw [ycp];intro a _;simp
     rw [this];rfl
   rw [key]
   cases agN gr k t with
   | true=>simp only [yb4,yaH]
   | false=>simp
def zAB(ts:Z2)(r c:Nat):List (List Int):=zaH ts [] c (r*c)
def agG(r c:Nat)(g:Z1)(t:List Int):Bool:=agN (zao r c g) (r*c) t
def zdb:zae ts r c g=(zAB ts r c).filter (agG r c g):=zfh _
theorem zim(hc:1<=c):∀{k:Nat},k<r*c->(zeG r c)[k]?=some (k / c,k % c):=by
 induction r with
 | zero=>intro k h;omega
 | succ r ih =>
  intro k h
  have hl:(zeG r c).length=r*c:=by
   have:=zaL (r:=r) (c:=c) (g:=fun _ _=>none);rwa [zdB,yae] at this
  have e:zeG (r+1) c=zeG r c++(List.range c).map fun j=>(r,j):=by
   unfold zeG;rw [ya5,ycP];simp
  rw [e]
  by_cases z:k<r*c
  ·rw [yax (by omega)];exact ih z
  ·rw [yap (by omega),hl,yal]
   have h2:k<r*c+c:=by rwa [yb9] at h
   rw [yb6 (by omega)]
   have hd:k / c=r:=by
    rw [Nat.div_eq_iff (by omega)];have:r*c=c*r:=ybv _ _
    constructor<;>first | omega | (rw [ybv];omega) | skip
    all_goals omega
   have hm:k % c=k-r*c:=by
    have:=ycS k c;rw [hd] at this;rw [ybv] at this;omega
   rw [hd,hm];rfl
def zgH(hc:1<=c)(h:k<r*c):(zao r c g).getD k none=g (k / c) (k % c):=by
 rw [zdB,yab,yal,zim hc h];rfl
def zjr(hc:1<=c)(h:k<r*c):k / c<r:=Nat.div_lt_of_lt_mul (by rw [ybv];exact h)
theorem zk8{r c i j:Nat}(hi:i<r)(hj:j<c):i*c+j<r*c:=by
 have:=ybu c (show i+1<=r by omega);rw [yb9] at this;omega
theorem ziC{c i j:Nat}(hj:j<c):(i*c+j) / c=i/\(i*c+j) % c=j:=by
 have hc:0<c:=by omega
 constructor
 ·rw [ybv,Nat.mul_add_div hc,Nat.div_eq_of_lt hj,Nat.add_zero]
 ·rw [ybv,Nat.mul_add_mod,Nat.mod_eq_of_lt hj]
def zhG(hc:1<=c):agG r c g t=true↔∀i j,i<r->j<c->okO (g i j) (t.getD (i*c+j) 0)=true:=by
 unfold agG agN;rw [ya1];constructor
 ·intro h i j hi hj;have:=h (i*c+j) (yaI.mpr (zk8 hi hj));rwa [zgH hc (zk8 hi hj),(ziC hj).1,(ziC hj).2] at this
 ·intro h k hk;have hk:=yaI.mp hk;rw [zgH hc hk];have:=h (k / c) (k % c) (zjr hc hk) (Nat.mod_lt _ hc);rwa [ybv,ycS] at this
def zfM:okO o x=true↔o=none\/o=some x:=by
 cases o with
 | none=>simp [okO]
 | some y=>simp [okO]
structure RtL(ts:Z2)(c k:Nat)(t:List Int):Prop where
 len:t.length=k
 inr:InR ts t
 fit:∀i,i<k->zi0 ts c (t.take i) (t.getD i 0)=true
theorem zgD:x∈zcF ts↔0<=x/\x<ts.length:=by
 unfold zcF;rw [yat];constructor
 ·rintro ⟨i,hi,rfl⟩;have:=yaI.mp hi;omega
 ·intro h;exact ⟨x.toNat,yaI.mpr (by omega),by omega⟩
theorem zfP:∀{k:Nat} {t:List Int},t∈zaH ts [] c k↔RtL ts c k t
 | 0,t=>by
  constructor
  ·intro h;rw [yaF.mp h];exact ⟨rfl,fun x hx=>(yaV hx).elim,fun i hi=>by omega⟩
  ·intro h;rw [ybe h.len];exact yaF.mpr rfl
 | k+1,t=>by
  show t∈(zaH ts [] c k).flatMap _↔_;rw [ybf];constructor
  ·rintro ⟨u,hu,ht⟩;have R:=zfP.mp hu;unfold zdx at ht;obtain ⟨x,hx,rfl⟩:=yat.mp ht;obtain ⟨h1,h2⟩:=ya0.mp hx;rw [yac] at h2;have hx:=zgD.mp h1;refine ⟨by rw [yah,R.len];rfl,fun y hy=>?_,fun i hi=>?_⟩
   ·rcases ybr.mp hy with hy | hy
    ·exact R.inr y hy
    ·rw [yaF.mp hy];exact hx
   ·by_cases z:i<k
    ·have e1:(u++[x]).take i=u.take i:=List.take_append_of_le_length (by rw [R.len];omega)
     have e2:(u++[x]).getD i 0=u.getD i 0:=by
      rw [yab,yab,yax (by rw [R.len];exact z)]
     rw [e1,e2];exact R.fit i z
    ·have hi':i=u.length:=by rw [R.len];omega
     subst hi'
     have e1:(u++[x]).take u.length=u:=by simp
     have e2:(u++[x]).getD u.length 0=x:=by
      rw [yab,yap (yam _)];simp
     rw [e1,e2];exact h2.2
  ·intro R
   have hk:k<t.length:=by rw [R.len];omega
   have e:t=t.take k++[t.getD k 0]:=by
    have h1:t.getD k 0=t[k]:=by rw [yab,yaa hk];rfl
    rw [h1,List.take_append_getElem hk,ybC (by rw [R.len];omega)]
   refine ⟨t.take k,zfP.mpr ⟨by rw [ya6,R.len];omega,fun x hx=>R.inr x (List.mem_of_mem_take hx),fun i hi=>?_⟩,?_⟩
   ·have h1:(t.take k).take i=t.take i:=by rw [List.take_take,ybs (by omega)]
    have h2:(t.take k).getD i 0=t.getD i 0:=by
     rw [yab,yab,ybN hi]
    rw [h1,h2];exact R.fit i (by omega)
   ·have:t.take k++[t.getD k 0]∈zdx ts c none (t.take k):=by
     unfold zdx;refine yat.mpr ⟨t.getD k 0,ya0.mpr ⟨zgD.mpr ?_,?_⟩,rfl⟩
     ·have h1:t.getD k 0=t[k]:=by rw [yab,yaa hk];rfl
      rw [h1];exact R.inr _ (yaS hk)
     ·rw [R.fit k (by omega)];rfl
    rwa [<-e] at this
def zk2:t∈zae ts r c g↔RtL ts c (r*c) t/\agG r c g t=true:=by
 rw [zdb,ya0];show t∈zaH ts [] c (r*c)/\_↔_;rw [zfP]
structure RtG(ts:Z2)(r c:Nat)(G:Nat->Nat->Int):Prop where
 inr:∀i j,i<r->j<c->0<=G i j/\G i j<ts.length
 east:∀i j,i<r->j+1<c->zbf ts (G i j) 1=zbf ts (G i (j+1)) 3
 south:∀i j,i+1<r->j<c->zbf ts (G i j) 2=zbf ts (G (i+1) j) 0
noncomputable def tnG(c:Nat)(t:List Int)(i j:Nat):Int:=t.getD (i*c+j) 0
def lsG(r c:Nat)(G:Nat->Nat->Int):List Int:=(zeG r c).map fun p=>G p.1 p.2
def zmc:(zeG r c).length=r*c:=by
 have:=zaL (r:=r) (c:=c) (g:=fun _ _=>none);rwa [zdB,yae] at this
def zq3:(lsG r c G).length=r*c:=by unfold lsG;rw [yae,zmc]
def zq4(hc:1<=c)(h:k<r*c):(lsG r c G).getD k 0=G (k / c) (k % c):=by
 unfold lsG;rw [yab,yal,zim hc h];rfl
theorem zpU(hi:i<r)(hj:j<c):tnG c (lsG r c G) i j=G i j:=by
 unfold tnG;rw [zq4 (by omega) (zk8 hi hj),(ziC hj).1,(ziC hj).2]
def zlv{t:List Int}{i j:Nat}(h:j<i):(t.take i).getD j 0=t.getD j 0:=by
 rw [yab,yab,ybN h]
theorem zlu{t:List Int}{i:Nat}(h:i<t.length)(h0:0<i):(t.take i).getLastD 0=t.getD (i-1) 0:=by
 rw [ybq,List.getLast?_eq_getElem?,ya6,ybs (by omega),ybN (by omega),yab]
theorem zkk(hc:1<=c)(hl:t.length=r*c)(hi:i<r)(hj:j<c):zi0 ts c (t.take (i*c+j)) (t.getD (i*c+j) 0)=true↔((0<j->zbf ts (tnG c t i (j-1)) 1=zbf ts (tnG c t i j) 3)/\(0<i->zbf ts (tnG c t (i-1) j) 2=zbf ts (tnG c t i j) 0)):=by
 have hk:=zk8 hi hj
 have e1:(t.take (i*c+j)).length=i*c+j:=by rw [ya6];omega
 unfold zi0;rw [ybk,e1,(ziC hj).2]
 have a:0<j->(t.take (i*c+j)).getLastD 0=tnG c t i (j-1):=fun h=>by
  rw [zlu (by omega) (by omega)];unfold tnG;congr 1;omega
 have hmul:0<i->(i-1)*c+c=i*c:=fun h=>by
  have:i=(i-1)+1:=by omega
  conv=>rhs;rw [this,yb9]
 have b:0<i->(t.take (i*c+j)).getD (i*c+j-c) 0=tnG c t (i-1) j:=fun h=>by
  have:=hmul h;rw [zlv (by omega)];unfold tnG;congr 1;omega
 have cc:c<=i*c+j↔0<i:=by
  constructor
  ·intro h
   rcases Nat.eq_zero_or_pos i with z | z
   ·subst z;omega
   ·exact z
  ·intro h;have:=hmul h;omega
 rw [cc];constructor
 ·rintro ⟨x,y⟩;exact ⟨fun h=>by rw [<-a h];exact x h,fun h=>by rw [<-b h];exact y h⟩
 ·rintro ⟨x,y⟩;exact ⟨fun h=>by rw [a h];exact x h,fun h=>by rw [b h];exact y h⟩
theorem zqp(hc:1<=c):RtL ts c (r*c) t↔t.length=r*c/\RtG ts r c (tnG c t):=by
 constructor
 ·intro R;have key:∀i j,i<r->j<c->_:=fun i j hi hj=>(zkk hc R.len hi hj).mp (R.fit _ (zk8 hi hj))
  refine ⟨R.len,⟨fun i j hi hj=>?_,fun i j hi hj=>?_,fun i j hi hj=>?_⟩⟩
  ·have hk:=zk8 hi hj
   have e:tnG c t i j=t[i*c+j]'(by rw [R.len];exact hk):=by
    unfold tnG;rw [yab,yaa (by rw [R.len];exact hk)];rfl
   rw [e];exact R.inr _ (yaS _)
  ·exact (key i (j+1) hi hj).1 (by omega)
  ·exact (key (i+1) j hi hj).2 (by omega)
 ·rintro ⟨hl,G⟩;refine ⟨hl,fun x hx=>?_,fun k hk=>?_⟩
  ·obtain ⟨k,hk,rfl⟩:=List.mem_iff_getElem.mp hx
   have hk':k<r*c:=by omega
   have:=G.inr (k / c) (k % c) (zjr hc hk') (Nat.mod_lt _ hc);unfold tnG at this;rwa [ybv,ycS,yab,yaa hk] at this
  ·have hi:=zjr hc hk;have hj:=Nat.mod_lt k hc;have:=(zkk (ts:=ts) hc hl hi hj).mpr ⟨fun h=>by have:=G.east (k / c) (k % c-1) hi (by omega);rw [show k % c-1+1=k % c by omega] at this;exact this,fun h=>by have:=G.south (k / c-1) (k % c) (by omega) hj;rwa [show k / c-1+1=k / c by omega] at this⟩;rwa [ybv,ycS] at this
def RtG.congr(h:∀i j,i<r->j<c->G i j=G' i j)(R:RtG ts r c G):RtG ts r c G' where
 inr:=fun i j hi hj=>by rw [<-h i j hi hj];exact R.inr i j hi hj
 east:=fun i j hi hj=>by rw [<-h i j hi (by omega),<-h i (j+1) hi hj];exact R.east i j hi hj
 south:=fun i j hi hj=>by rw [<-h i j (by omega) hj,<-h (i+1) j hi hj];exact R.south i j hi hj
def za1(hc:1<=c):t∈zae ts r c g↔t.length=r*c/\RtG ts r c (tnG c t)/\∀i j,i<r->j<c->g i j=none\/g i j=some (tnG c t i j):=by
 rw [zk2,zqp hc,zhG hc,and_assoc];constructor
 ·rintro ⟨a,b,h⟩;exact ⟨a,b,fun i j hi hj=>zfM.mp (h i j hi hj)⟩
 ·rintro ⟨a,b,h⟩;exact ⟨a,b,fun i j hi hj=>zfM.mpr (h i j hi hj)⟩
def zgE(hc:1<=c):lsG r c G∈zae ts r c g↔RtG ts r c G/\∀i j,i<r->j<c->g i j=none\/g i j=some (G i j):=by
 rw [za1 hc];have e:∀i j,i<r->j<c->tnG c (lsG r c G) i j=G i j:=fun i j hi hj=>zpU hi hj
 constructor
 ·rintro ⟨_,b,h⟩;exact ⟨b.congr e,fun i j hi hj=>by rw [<-e i j hi hj];exact h i j hi hj⟩
 ·rintro ⟨b,h⟩;exact ⟨zq3,b.congr (fun i j hi hj=>(e i j hi hj).symm),fun i j hi hj=>by rw [e i j hi hj];exact h i j hi hj⟩
section
variable{ts:Z2}{r c:Nat}{g h:Z1}
def zmU(hc:1<=c)(l:LeG r c g h):zae ts r c h=(zae ts r c g).filter (agG r c h):=by
 rw [zdb,zdb,yck];apply ycu;intro t _
 cases ha:agG r c h t with
 | false=>rfl
 | true =>
  have:=(zhG hc).mp ha
  have:agG r c g t=true:=(zhG hc).mpr fun i j hi hj=>by
   rcases l i j hi hj with z | z
   ·rw [z];rfl
   ·rw [z];exact this i j hi hj
  rw [this];rfl
def zjm(hc:1<=c)(ht:t∈zae ts r c g)(hi:i<r)(hj:j<c):g i j=none\/g i j=some (tnG c t i j):=((za1 hc).mp ht).2.2 i j hi hj
def zko(hc:1<=c)(ht:t∈zae ts r c g)(hi:i<r)(hj:j<c):0<=tnG c t i j/\tnG c t i j<ts.length:=((za1 hc).mp ht).2.1.inr i j hi hj
def ztN(hg:g i j=none\/g i j=o):LeG r c g (zeE g i j o):=fun a b _ _=>by
 unfold zeE
 by_cases z:a=i/\b=j
 ·rw [if_pos z];obtain ⟨rfl,rfl⟩:=z;exact hg
 ·rw [if_neg z];exact .inr rfl
def zf7(hc:1<=c)(hi:i<r)(hj:j<c)(hg:g i j=none\/g i j=some x):zae ts r c (zeE g i j (some x))=(zae ts r c g).filter fun t=>decide (tnG c t i j=x):=by
 rw [zmU hc (ztN hg)];apply ycu;intro t ht;rw [ybj,zhG hc,ybk];constructor
 ·intro z;have:=z i j hi hj;unfold zeE at this;rw [if_pos ⟨rfl,rfl⟩] at this
  rcases zfM.mp this with w | w
  ·cases w
  ·exact (Option.some.inj w).symm
 ·intro z a b ha hb;unfold zeE
  by_cases w:a=i/\b=j
  ·rw [if_pos w];obtain ⟨rfl,rfl⟩:=w;exact zfM.mpr (.inr (by rw [<-z];rfl))
  ·rw [if_neg w];exact zfM.mpr (zjm hc ht ha hb)
theorem zeN{α:Type}{p:α->Bool}:∀{l:List α},(l.filter p).length=l.length↔∀x∈l,p x=true
 | []=>by simp
 | x::l=>by
  have ih:=zeN (p:=p) (l:=l);have le:=yaO p l;rw [ycB]
  cases hp:p x with
  | true=>simp [hp,ih]
  | false =>
   simp only [yaT,ybO,yai];constructor
   ·intro z;omega
   ·intro z;have:=z x yaw;rw [hp] at this;cases this
def zd3(ts:Z2)(r c:Nat)(g:Z1):List Int:=(zae ts r c g).getD 0 []
def zf0(ts:Z2)(r c:Nat)(g:Z1)(i j:Nat):Bool:=(g i j).isNone&&!(zae ts r c g).isEmpty&&decide (∀t∈zae ts r c g,tnG c t i j=tnG c (zd3 ts r c g) i j)
def zjl(ts:Z2)(r c:Nat)(g:Z1):D->List D
 | .tup [.int i,.int j]=>if zf0 ts r c g i.toNat j.toNat then [.tup [plD i.toNat j.toNat,.int (tnG c (zd3 ts r c g) i.toNat j.toNat)]] else []
 | _=>[]
def zfZ:zjl ts r c g (plD i j)=if zf0 ts r c g i j then [.tup [plD i j,.int (tnG c (zd3 ts r c g) i j)]] else []:=by
 show (if zf0 ts r c g ((i:Int).toNat) ((j:Int).toNat) then _ else _)=_;rw [yaB,yaB]
def za2(ts:Z2)(r c:Nat)(g:Z1):List D:=(zbd r c).flatMap (zjl ts r c g)
def zla(h:zae ts r c g=[]):za2 ts r c g=[]:=by
 unfold za2;rw [yci];intro d hd;obtain ⟨i,j,_,_,rfl⟩:=za0 hd;rw [zfZ]
 have:zf0 ts r c g i j=false:=by unfold zf0;rw [h];simp
 rw [this];rfl
def ze0:d∈za2 ts r c g↔∃i j,i<r/\j<c/\zf0 ts r c g i j=true/\d=.tup [plD i j,.int (tnG c (zd3 ts r c g) i j)]:=by
 unfold za2;rw [ybf];constructor
 ·rintro ⟨p,hp,hd⟩;obtain ⟨i,j,hi,hj,rfl⟩:=za0 hp;rw [zfZ] at hd;split at hd
  ·rename_i hb;exact ⟨i,j,hi,hj,hb,yaF.mp hd⟩
  ·exact (yaV hd).elim
 ·rintro ⟨i,j,hi,hj,hb,rfl⟩;refine ⟨_,zjW hi hj,?_⟩;rw [zfZ,if_pos hb];exact yaF.mpr rfl
def zkf:(zjl ts r c g d).length<=1:=by
 unfold zjl;split
 ·split<;>simp
 ·simp
theorem zgJ:(za2 ts r c g).length<=r*c:=by
 have:=zf4 (g:=zjl ts r c g) (m:=1) (l:=zbd r c) fun d _=>zkf
 rw [zbV] at this;unfold za2;omega
noncomputable def zgq(g:Z1):D->Bool | .tup [.int i,.int j]=>(g i.toNat j.toNat).isNone | _=>false
def zjv:zgq g (plD i j)=(g i j).isNone:=by
 show (g ((i:Int).toNat) ((j:Int).toNat)).isNone=_;rw [yaB,yaB]
def ztC:zdp (oD o)=o.isNone:=by cases o<;>rfl
def znW(h1:1<=r)(hr:r<=100)(hc:c<=100):zce [flr r c g] S=.ok (.lst ((zbd r c).filter (zgq g))) S:=by
 have e1:=za9 (g:=g) (S:=S) (c:=c) h1 hr hc
 have e2:=zcz (tg:=.one 0) (c:=zah zny (eFn zam [(zac 1),(zac 0)]) (zag .non)) (elt:=zac 0) (ρ0:=[none,some (false,flr r c g)]) (S:=S) (g:=id) (p:=zgq g) (ds:=zbd r c) (by
  intro d hd;obtain ⟨i,j,hi,hj,rfl⟩:=za0 hd;have n1:=zbJ (g:=g) (S:=S) hi hj;refine ⟨_,rfl,?_,fun _=>rfl⟩;rw [zjv,<-ztC];generalize flr r c g=fg at *;generalize plD i j=pp at *
  simp [n1])
 rw [List.map_id] at e2
 have hl:((zbd r c).filter (zgq g)).length<=100000:=by
  refine yak (yaO _ _) ?_;rw [zbV];exact yak (ybd hr hc) (by decide)
 generalize (zbd r c).filter (zgq g)=res at *;generalize flr r c g=fg at *;simp [zce,zal,zdh,e1,e2,hl]
def znH:zap c t i j=some (tnG c t i j):=rfl
def zee(h1:1<=r)(hi:i<r)(hj:j<c):zcV [flr r c g,plD i j] S=.ok (oD (g i j)) S:=by
 have e1:=zfE (g:=g) (S:=S) h1 hi hj;have e2:=zbJ (g:=g) (S:=S) hi hj;generalize flr r c g=fg at *;generalize plD i j=pp at *;simp [zcV,zal,zf9,e1,e2]
def zm0:eqD (.int a) (.int b)=some (.bl (decide (a=b))):=by
 simp [eqD,zfq,D.py,PyData.eqv];rfl
def zfu(h:zae ts r c g≠[]):zd3 ts r c g∈zae ts r c g:=by
 unfold zd3
 cases hf:zae ts r c g with
 | nil=>exact absurd hf h
 | cons a l=>simp
def zmS(P:FP ts r c)(hne:zae ts r c g≠[])(hi:i<r)(hj:j<c)(hb:g i j=none):decide (((zae ts r c (zeE g i j (some (tnG c (zd3 ts r c g) i j)))).length:Int)=((zae ts r c g).length:Int))=zf0 ts r c g i j:=by
 unfold zf0
 have he:(zae ts r c g).isEmpty=false:=by cases hf:zae ts r c g with | nil=>exact absurd hf hne | cons _ _=>rfl
 rw [zf7 P.c1 hi hj (.inl hb),hb,he];simp only [Option.isNone_none,Bool.not_false,yc8];congr 1;rw [Int.ofNat_inj,zeN];simp
theorem zgw(P:FP ts r c)(hg:InT ts g)(S:Sto):∃S',zdO [.tup (ts.map zad),flr r c g] S=.ok (.lst (za2 ts r c g)) S':=by
 obtain ⟨S1,e1⟩:=zdu P hg S;have q1:=zm0 (a:=((zae ts r c g).length:Nat)) (b:=0)
 by_cases hne:zae ts r c g=[]
 ·rw [zla hne];rw [hne] at e1;refine ⟨S1,?_⟩;have q:eqD (.int 0) (.int 0)=some (.bl true):=rfl;generalize flr r c g=fl at *;simp at e1;simp [zdO,zal,zfw,e1,q]
 ·have hlen:0<(zae ts r c g).length:=ycR.mpr hne;obtain ⟨S2,e2⟩:=zjQ P hg 0 S1;rw [if_pos ⟨by omega,by omega⟩] at e2;have e2':zfK [.tup (ts.map zad),flr r c g,.int 0] S1=.ok (flr r c (zap c (zd3 ts r c g))) S2:=e2;have e3:=znW (g:=g) (S:=S2) P.r1 (show r<=100 by have:=P.r6;omega) (show c<=100 by have:=P.c6;omega);have r6:=P.r6;have c6:=P.c6
  have hfl:((zbd r c).filter (zgq g)).flatMap (zjl ts r c g)=za2 ts r c g:=by
   unfold za2
   have:∀l:List D,(∀d∈l,∃i j,i<r/\j<c/\d=plD i j)->(l.filter (zgq g)).flatMap (zjl ts r c g)=l.flatMap (zjl ts r c g):=by
    intro l
    induction l with
    | nil=>intro _;rfl
    | cons d l ih =>
     intro hm;obtain ⟨i,j,_,_,rfl⟩:=hm d yaw;have ih':=ih fun d hd=>hm d (yao _ hd)
     rw [ycB,zjv,yaH]
     cases hb:g i j with
     | none=>simp only [Option.isNone_none,yb4,yaH,ih']
     | some x =>
      have:zjl ts r c g (plD i j)=[]:=by
       rw [zfZ]
       have:zf0 ts r c g i j=false:=by unfold zf0;rw [hb];rfl
       rw [this];rfl
      simp only [Option.isNone_some,yaT,ybO,ih',this,ycL]
   exact this _ fun d hd=>za0 hd
  have hmem:∀d∈(zbd r c).filter (zgq g),∃i j,i<r/\j<c/\d=plD i j/\g i j=none:=fun d hd=>by
   obtain ⟨h1,h2⟩:=ya0.mp hd;obtain ⟨i,j,hi,hj,rfl⟩:=za0 h1;rw [zjv] at h2;exact ⟨i,j,hi,hj,rfl,Option.isNone_iff_eq_none.mp h2⟩
  have hfin:=zfu hne
  have hsm:((zbd r c).filter (zgq g)).length<=100:=by
   refine yak (yaO _ _) ?_;rw [zbV];have:=P.rc;omega
  rw [<-hfl];generalize (zbd r c).filter (zgq g)=ps at *
  obtain ⟨ρ',S3,e4,x5,x6,rfl⟩:=zf1 (tg:=.one 5) (body:=zdX) (ds:=ps) (fun k ρ S=>∃x5 x6,ρ=[some (false,.tup (ts.map zad)),some (false,flr r c g),some (false,.int ((zae ts r c g).length:Nat)),some (false,flr r c (zap c (zd3 ts r c g))),some (true,.lst ((ps.take k).flatMap (zjl ts r c g))),x5,x6]) (by
   rintro k d ρ S hd ⟨x5,x6,rfl⟩;obtain ⟨i,j,hi,hj,rfl,hb⟩:=hmem d (ybL hd)
   have et:ps.take (k+1)=ps.take k++[plD i j]:=by
    rw [yc6,hd];rfl
   rw [et,ycP,List.flatMap_singleton,zfZ]
   have hL:((ps.take k).flatMap (zjl ts r c g)).length<=100000:=by
    have:=zf4 (g:=zjl ts r c g) (m:=1) (l:=ps.take k) fun d _=>zkf
    rw [ya6] at this;omega
   have n1:=zbJ (g:=zap c (zd3 ts r c g)) (S:=S) hi hj;rw [znH] at n1;have hx:=zko P.c1 hfin hi hj;have w:=zev (ts:=ts) (g:=g) (o:=some (tnG c (zd3 ts r c g) i j)) (S:=S) (fun x hx'=>by cases hx';exact hx) P.r1 hi hj (by omega) (by omega);obtain ⟨S',hcn⟩:=zdu (g:=zeE g i j (some (tnG c (zd3 ts r c g) i j))) P (zpl hg fun x hx'=>by cases hx';exact hx) S;have q:=zm0 (a:=((zae ts r c (zeE g i j (some (tnG c (zd3 ts r c g) i j)))).length:Nat)) (b:=((zae ts r c g).length:Nat));rw [zmS P hne hi hj hb] at q;refine ⟨_,[some (false,.tup (ts.map zad)),some (false,flr r c g),some (false,.int ((zae ts r c g).length:Nat)),some (false,flr r c (zap c (zd3 ts r c g))),some (true,.lst ((ps.take k).flatMap (zjl ts r c g)++if zf0 ts r c g i j then [.tup [plD i j,.int (tnG c (zd3 ts r c g) i j)]] else [])),some (false,plD i j),some (false,.int (tnG c (zd3 ts r c g) i j))],S',rfl,?_,_,_,rfl⟩;have ho:oD (some (tnG c (zd3 ts r c g) i j))=.int (tnG c (zd3 ts r c g) i j):=rfl;rw [ho] at n1 w;generalize (ps.take k).flatMap (zjl ts r c g)=L at *;generalize (zae ts r c (zeE g i j (some (tnG c (zd3 ts r c g) i j)))).length=n2 at *;generalize (zae ts r c g).length=n3 at *;generalize flr r c (zeE g i j (some (tnG c (zd3 ts r c g) i j)))=f1 at *;generalize flr r c (zap c (zd3 ts r c g))=f2 at *;generalize flr r c g=fl at *;generalize tnG c (zd3 ts r c g) i j=xx at *;generalize plD i j=pp at *
   cases hbb:zf0 ts r c g i j with
   | true=>rw [hbb] at q;simp [zdX,n1,w,hcn,q,hL]
   | false=>rw [hbb] at q;simp [zdX,n1,w,hcn,q])
   (ρ:=[some (false,.tup (ts.map zad)),some (false,flr r c g),some (false,.int ((zae ts r c g).length:Nat)),some (false,flr r c (zap c (zd3 ts r c g))),some (true,.lst []),none,none]) (S:=S2) ⟨none,none,rfl⟩
  rw [List.take_length] at e4;refine ⟨S3,?_⟩;rw [yaJ (by omega)] at q1;generalize ps.flatMap (zjl ts r c g)=res at *;generalize (zae ts r c g).length=n3 at *;generalize flr r c (zap c (zd3 ts r c g))=f2 at *;generalize flr r c g=fl at *;simp [zdO,zal,zfw,e1,q1,e2',e3,e4]
def zfl(ts:Z2)(r c:Nat)(g:Z1)(i j:Nat)(x:Int):Nat:=((zae ts r c g).filter fun t=>decide (tnG c t i j=x)).length
def zkw(ts:Z2)(r c:Nat)(g:Z1)(i j:Nat):List D:=(List.range ts.length).map fun x:Nat=>D.int (zfl ts r c g i j x:Nat)
theorem zm8(hc:1<=c)(hi:i<r)(hj:j<c)(h:g i j=some y)(hxy:y≠x):zfl ts r c g i j x=0:=by
 unfold zfl;rw [ycj,ycp];intro t ht
 rcases zjm hc ht hi hj with z | z
 ·rw [h] at z;cases z
 ·rw [h] at z;have:=Option.some.inj z;simp;omega
theorem zex(P:FP ts r c)(hg:InT ts g)(hi:i<r)(hj:j<c)(S:Sto):∃S',zbD [.tup (ts.map zad),flr r c g,plD i j] S=.ok (.lst (zkw ts r c g i j)) S':=by
 have r6:=P.r6;have c6:=P.c6;have tl:=P.ht.le;have e1:=zee (g:=g) (S:=S) P.r1 hi hj
 obtain ⟨ρ',S2,e2,x5,x6,rfl⟩:=zf1 (tg:=.one 5) (body:=zb0) (ds:=zat 0 (ts.length:Int)) (fun k ρ S=>∃x5 x6,ρ=[some (false,.tup (ts.map zad)),some (false,flr r c g),some (false,plD i j),some (false,oD (g i j)),some (true,.lst ((List.range k).map fun x:Nat=>D.int (zfl ts r c g i j x:Nat))),x5,x6]) (by
  rintro k d ρ S hd ⟨x5,x6,rfl⟩;obtain ⟨hk,rfl⟩:=zhc hd;rw [ya5,ybV]
  have hL:((List.range k).map fun x:Nat=>D.int (zfl ts r c g i j x:Nat)).length<=100000:=by simp;omega
  have hx:∀x,some (k:Int)=some x->0<=x/\x<ts.length:=fun x hx=>by cases hx;omega
  have w:=zev (ts:=ts) (g:=g) (o:=some (k:Int)) (S:=S) hx P.r1 hi hj (by omega) (by omega);obtain ⟨S',hcn⟩:=zdu (g:=zeE g i j (some (k:Int))) P (zpl hg hx) S;have ho:oD (some (k:Int))=.int (k:Int):=rfl;rw [ho] at w
  cases hgo:g i j with
  | none =>
   rw [zf7 P.c1 hi hj (.inl hgo)] at hcn;have hcn':zaA [.tup (ts.map zad),flr r c (zeE g i j (some (k:Int)))] S=.ok (.int (zfl ts r c g i j k:Nat)) S':=hcn;refine ⟨_,_,S',rfl,?_,some (false,.int k),some (false,.bl true),rfl⟩;show _=Fo.nx [_,_,_,_,some (true,.lst (_++[D.int (zfl ts r c g i j k:Nat)])),_,_] S';generalize (List.range k).map (fun x:Nat=>D.int (zfl ts r c g i j x:Nat))=L at *;generalize zfl ts r c g i j k=cn at *;generalize flr r c (zeE g i j (some (k:Int)))=f1 at *;generalize flr r c g=fl at *;generalize plD i j=pp at *;simp [zb0,oD,w,hcn',hL]
  | some y =>
   have q:=zm0 (a:=y) (b:=(k:Int))
   by_cases hy:y=(k:Int)
   ·rw [zf7 P.c1 hi hj (.inr (by rw [hgo,hy]))] at hcn;have hcn':zaA [.tup (ts.map zad),flr r c (zeE g i j (some (k:Int)))] S=.ok (.int (zfl ts r c g i j k:Nat)) S':=hcn;rw [yaD hy] at q;refine ⟨_,_,S',rfl,?_,some (false,.int k),some (false,.bl true),rfl⟩;show _=Fo.nx [_,_,_,_,some (true,.lst (_++[D.int (zfl ts r c g i j k:Nat)])),_,_] S';generalize (List.range k).map (fun x:Nat=>D.int (zfl ts r c g i j x:Nat))=L at *;generalize zfl ts r c g i j k=cn at *;generalize flr r c (zeE g i j (some (k:Int)))=f1 at *;generalize flr r c g=fl at *;generalize plD i j=pp at *;simp [zb0,oD,w,hcn',hL,q]
   ·rw [yaJ hy] at q;refine ⟨_,_,S,rfl,?_,some (false,.int k),some (false,.bl false),rfl⟩;show _=Fo.nx [_,_,_,_,some (true,.lst (_++[D.int (zfl ts r c g i j k:Nat)])),_,_] S;rw [zm8 P.c1 hi hj hgo hy];generalize (List.range k).map (fun x:Nat=>D.int (zfl ts r c g i j x:Nat))=L at *;generalize flr r c g=fl at *;generalize plD i j=pp at *
    simp [zb0,oD,hL,q])
  (ρ:=[some (false,.tup (ts.map zad)),some (false,flr r c g),some (false,plD i j),some (false,oD (g i j)),some (true,.lst []),none,none]) (S:=S) ⟨none,none,rfl⟩
 rw [zeY] at e2;simp only [Int.sub_zero,yaB] at e2;refine ⟨S2,?_⟩
 have hb:-1000000<=(ts.length:Int)/\(ts.length:Int)<=1000000:=by omega
 unfold zkw;generalize (List.range ts.length).map (fun x:Nat=>D.int (zfl ts r c g i j x:Nat))=L at *;generalize flr r c g=fl at *;generalize plD i j=pp at *;simp [zbD,zal,zeo,e1,hb,e2]
end
def zhz:cl2 a b=false↔∀x y,a=some x->b=some y->x=y:=by
 cases a<;>cases b<;>simp [cl2]
def zna:clL ts r c g=[]↔∀i j,i<r->j<c->cl2 (zaI ts r c g i j 1) (zaI ts r c g i (j+1) 3)=false/\cl2 (zaI ts r c g i j 2) (zaI ts r c g (i+1) j 0)=false:=by
 unfold clL;rw [yci]
 have key:∀i j:Nat,clG ts r c g (plD i j)=[]↔cl2 (zaI ts r c g i j 1) (zaI ts r c g i (j+1) 3)=false/\cl2 (zaI ts r c g i j 2) (zaI ts r c g (i+1) j 0)=false:=by
  intro i j;unfold clG;simp only [plD,yaB]
  by_cases a:cl2 (zaI ts r c g i j 1) (zaI ts r c g i (j+1) 3)=true<;>by_cases b:cl2 (zaI ts r c g i j 2) (zaI ts r c g (i+1) j 0)=true<;>simp [a,b]
 constructor
 ·intro h i j hi hj;exact (key i j).mp (h _ (zjW hi hj))
 ·intro h d hd;obtain ⟨i,j,hi,hj,rfl⟩:=za0 hd;exact (key i j).mpr (h i j hi hj)
def zid(hG:∀i j,i<r->j<c->0<=G i j/\G i j<ts.length):clL ts r c (fun i j=>some (G i j))=[]↔RtG ts r c G:=by
 rw [zna]
 have e:∀i j s,i<r->j<c->zaI ts r c (fun i j=>some (G i j)) i j s=some (zbf ts (G i j) s):=fun i j s hi hj=>by unfold zaI;rw [if_pos ⟨hi,hj⟩];rfl
 have e':∀i j s,¬ (i<r/\j<c)->zaI ts r c (fun i j=>some (G i j)) i j s=none:=fun i j s h=>by unfold zaI;rw [if_neg h]
 constructor
 ·intro h;refine ⟨hG,fun i j hi hj=>?_,fun i j hi hj=>?_⟩
  ·have:=(h i j hi (by omega)).1;rw [e i j 1 hi (by omega),e i (j+1) 3 hi hj,zhz] at this;exact this _ _ rfl rfl
  ·have:=(h i j (by omega) hj).2;rw [e i j 2 (by omega) hj,e (i+1) j 0 hi hj,zhz] at this;exact this _ _ rfl rfl
 ·intro R i j hi hj;rw [zhz,zhz];constructor
  ·intro x y hx hy
   by_cases z:j+1<c
   ·rw [e i j 1 hi hj] at hx;rw [e i (j+1) 3 hi z] at hy;cases hx;cases hy;exact R.east i j hi z
   ·rw [e' i (j+1) 3 (fun w=>z w.2)] at hy;cases hy
  ·intro x y hx hy
   by_cases z:i+1<r
   ·rw [e i j 2 hi hj] at hx;rw [e (i+1) j 0 z hj] at hy;cases hx;cases hy;exact R.south i j z hj
   ·rw [e' (i+1) j 0 (fun w=>z w.1)] at hy;cases hy
def ziE:zht r c g h=true↔∀i j,i<r->j<c->h i j=none\/g i j=h i j:=by
 unfold zht;rw [ybk];exact ⟨fun z i j hi hj=>z i hi j hj,fun z i hi j hj=>z i j hi hj⟩
def zi9{ts:Z2}{r c:Nat}{g:Z1}{G:Nat->Nat->Int}(P:FP ts r c)(hG:∀i j,0<=G i j/\G i j<ts.length)(S:Sto):zcZ [.tup (ts.map zad),flr r c g,flr r c fun i j=>some (G i j)] S=.ok (.bl (decide (lsG r c G∈zae ts r c g))) S:=by
 have r6:=P.r6;have c6:=P.c6;have e1:=zg7 (g:=g) (h:=fun i j=>some (G i j)) (r':=r) (c':=c) (c:=c) (S:=S) P.r1 (by omega)
 have hin:InT ts fun i j=>some (G i j):=fun i j x hx=>by cases hx;exact hG i j
 have e2:=zh8 (g:=fun i j=>some (G i j)) (S:=S) (c:=c) P.ht hin P.r1 (by omega) (by omega);have e3:=zfc (g:=fun i j=>some (G i j)) (h:=g) (S:=S) (c:=c) P.r1 (by omega) (by omega)
 have hf:ziD r c (fun i j=>some (G i j))=true:=by unfold ziD;simp
 rw [hf,yc8] at e2;simp only [and_self,decide_true] at e1;have m:=zgE (ts:=ts) (g:=g) (r:=r) (G:=G) P.c1;have rt:=zid (ts:=ts) (r:=r) (c:=c) (G:=G) fun i j _ _=>hG i j
 have ft:=ziE (r:=r) (c:=c) (g:=fun i j=>some (G i j)) (h:=g)
 by_cases hR:RtG ts r c G
 ·rw [yaD (rt.mpr hR)] at e2
  have:zht r c (fun i j=>some (G i j)) g=decide (lsG r c G∈zae ts r c g):=by
   rw [ybj,ft,ybk,m];constructor
   ·intro z;exact ⟨hR,fun i j hi hj=>(z i j hi hj).imp id Eq.symm⟩
   ·intro z i j hi hj;exact (z.2 i j hi hj).imp id Eq.symm
  rw [this] at e3;generalize flr r c g=fl at *;generalize flr r c (fun i j=>some (G i j))=fm at *;simp [zcZ,zal,zeP,e1,e2,e3]
 ·rw [yaJ (fun z=>hR (rt.mp z))] at e2;rw [yaJ (fun z=>hR (m.mp z).1)];generalize flr r c g=fl at *;generalize flr r c (fun i j=>some (G i j))=fm at *;simp [zcZ,zal,zeP,e1,e2]
noncomputable def swp(i j k m:Nat)(p:Nat×Nat):Nat×Nat:=if p=(k,m) then (i,j) else if p=(i,j) then (k,m) else p
def zjC(g:Z1)(i j k m:Nat):Nat->Nat->Option Int:=fun a b=>g (swp i j k m (a,b)).1 (swp i j k m (a,b)).2
def zpR:zeE (zeE g i j (g k m)) k m (g i j)=zjC g i j k m:=by
 funext a b;unfold zeE zjC swp
 by_cases h1:a=k/\b=m
 ·rw [if_pos h1,if_pos (by rw [h1.1,h1.2])]
 ·rw [if_neg h1,if_neg (fun z=>h1 ⟨congrArg Prod.fst z,congrArg Prod.snd z⟩)]
  by_cases h2:a=i/\b=j
  ·rw [if_pos h2,if_pos (by rw [h2.1,h2.2])]
  ·rw [if_neg h2,if_neg (fun z=>h2 ⟨congrArg Prod.fst z,congrArg Prod.snd z⟩)]
def zg9(h1:1<=r)(hr:r<=100)(hc:c<=100)(hi:i<r)(hj:j<c)(hk:k<r)(hm:m<c):zc8 [T,flr r c g,plD i j,plD k m] S=.ok (flr r c (zjC g i j k m)) S:=by
 have e1:=zee (g:=g) (S:=S) h1 hi hj;have e2:=zee (g:=g) (S:=S) h1 hk hm;have e3:=zcp (g:=g) (o:=g k m) (S:=S) hi hj hr hc;have e4:=zcp (g:=zeE g i j (g k m)) (o:=g i j) (S:=S) hk hm hr hc;rw [zpR] at e4;generalize flr r c g=F0 at *;generalize flr r c (zeE g i j (g k m))=F1 at *;generalize flr r c (zjC g i j k m)=F2 at *;generalize oD (g i j)=o1 at *;generalize oD (g k m)=o2 at *;generalize plD i j=p1 at *;generalize plD k m=p2 at *;simp [zc8,zal,zen,e1,e2,e3,e4]
variable{ts:Z2}{os:List Int}{r c:Nat}{g:Z1}{S:Sto}
def zmj(h:Ord ts.length os)(hc:1<=c){o:Option Int}(ho:∀x,o=some x->0<=x/\x<ts.length){t:List Int}(ht:∀x∈t,0<=x/\x<ts.length):(zdx (newT ts os) c (o.map (inv os)) (t.map (inv os))).Perm ((zdx ts c o t).map (List.map (inv os))):=by
 unfold zdx
 have en:zcF (newT ts os)=os.map (inv os):=by
  rw [zmv h];unfold zcF zgk;rw [zcs h]
 rw [en,ych,yaK,yaK]
 have e1:(os.filter ((fun x=>okO (o.map (inv os)) x&&zi0 (newT ts os) c (t.map (inv os)) x)∘inv os))=os.filter fun x=>okO o x&&zi0 ts c t x:=by
  apply ycu;intro x hx;show (okO _ (inv os x)&&zi0 _ _ _ (inv os x))=_;rw [zqM h ho (h.mem.mp hx),zrn h hc ht (h.mem.mp hx)]
 rw [e1]
 have e2:((fun x=>t.map (inv os)++[x])∘inv os)=(List.map (inv os)∘fun x=>t++[x]):=by
  funext x;show t.map (inv os)++[inv os x]=(t++[x]).map (inv os);simp
 rw [e2];exact List.Perm.map _ (List.Perm.filter _ (show os.Perm (zcF ts) from h))
theorem zgM(h:Ord ts.length os)(hc:1<=c){gr:Z4}(hgr:∀o∈gr,∀x,o=some x->0<=x/\x<ts.length):∀k,(zaH (newT ts os) (gr.map (Option.map (inv os))) c k).Perm ((zaH ts gr c k).map (List.map (inv os)))
 | 0=>List.Perm.refl _
 | k+1=>by
  have ih:=zgM h hc hgr k
  have eo:(gr.map (Option.map (inv os))).getD k none=(gr.getD k none).map (inv os):=by
   rw [yab,yal,yab]
   cases gr[k]?<;>rfl
  have ho:∀x,gr.getD k none=some x->0<=x/\x<ts.length:=by
   intro x e;rw [yab] at e
   by_cases hk:k<gr.length
   ·rw [yaa hk] at e;exact hgr _ (yaS hk) x e
   ·rw [yav (by omega)] at e;cases e
  show ((zaH _ _ c k).flatMap _).Perm (((zaH ts gr c k).flatMap _).map _);rw [eo];refine List.Perm.trans (List.Perm.flatMap_right _ ih) ?_;have hin:=(zc3 (ts:=ts) (gr:=gr) (c:=c) k).mem;generalize zaH ts gr c k=F at hin
  induction F with
  | nil=>exact List.Perm.refl _
  | cons t F ih2 =>
   rw [yay,yaH,yaH,ybV];exact List.Perm.append (zmj h hc ho (hin t (.head _)).2) (ih2 (fun u hu=>hin u (.tail _ hu)))
def zft(h:Ord ts.length os)(hc:1<=c)(hg:InT ts g):(zae (newT ts os) r c (mvG os g)).Perm ((zae ts r c g).map (List.map (inv os))):=by
 unfold zae;rw [zmk];exact zgM h hc (zeM hg) _
theorem zkJ(hl:t.length=r*c)(hi:i<r)(hj:j<c):tnG c (t.map (inv os)) i j=inv os (tnG c t i j):=by
 have hk:i*c+j<t.length:=by
  rw [hl]
  have:i*c+c<=r*c:=by
   have:=ybu c (show i+1<=r by omega);rwa [ybX,Nat.one_mul] at this
  omega
 unfold tnG;rw [yab,yal,yab,yaa hk];rfl
def ztK(h:Ord ts.length os)(hc:1<=c)(hg:InT ts g){i j:Nat}(hi:i<r)(hj:j<c){x:Int}(hx:0<=x/\x<ts.length):zfl (newT ts os) r c (mvG os g) i j (inv os x)=zfl ts r c g i j x:=by
 unfold zfl;rw [((zft (r:=r) h hc hg).filter _).length_eq,ych,yae];congr 1;apply ycu;intro t ht;have hm:=(za1 hc).mp ht;show decide (tnG c (t.map (inv os)) i j=inv os x)=decide (tnG c t i j=x);rw [zkJ hm.1 hi hj,ybH];exact ⟨fun e=>h.inv_inj (hm.2.1.inr i j hi hj) hx e,fun e=>by rw [e]⟩
def zhm(h:Ord ts.length os)(hc:1<=c)(hg:InT ts g):(zae (newT ts os) r c (mvG os g)).isEmpty=(zae ts r c g).isEmpty:=by
 have:=(zft (r:=r) h hc hg).length_eq;rw [yae] at this
 cases a:zae (newT ts os) r c (mvG os g) with
 | nil =>
  rw [a] at this;rw [ycj.mp this.symm]
 | cons t F =>
  rw [a] at this
  cases b:zae ts r c g with
  | nil=>rw [b] at this;cases this
  | cons _ _=>rfl
def ztJ(h:Ord ts.length os)(hc:1<=c)(hg:InT ts g)(hi:i<r)(hj:j<c):zf0 (newT ts os) r c (mvG os g) i j=zf0 ts r c g i j/\(zf0 ts r c g i j=true->tnG c (zd3 (newT ts os) r c (mvG os g)) i j=inv os (tnG c (zd3 ts r c g) i j)):=by
 have hp:=zft (r:=r) h hc hg
 by_cases he:zae ts r c g=[]
 ·have e1:(zae ts r c g).isEmpty=true:=by rw [he];rfl
  have a:zf0 ts r c g i j=false:=by unfold zf0;rw [e1];simp
  have b:zf0 (newT ts os) r c (mvG os g) i j=false:=by unfold zf0;rw [zhm h hc hg,e1];simp
  exact ⟨by rw [a,b],fun z=>by rw [a] at z;cases z⟩
 ·have he':zae (newT ts os) r c (mvG os g)≠[]:=by
   intro z;have:=zhm (r:=r) h hc hg;rw [z] at this;exact he (ybt.mp this.symm)
  have m1:=zfu he;have m2:=zfu he';obtain ⟨t0,h0,e0⟩:=yat.mp (hp.mem_iff.mp m2);have l0:=(za1 hc).mp h0
  have key:(∀t∈zae (newT ts os) r c (mvG os g),tnG c t i j=tnG c (zd3 (newT ts os) r c (mvG os g)) i j)↔∀t∈zae ts r c g,tnG c t i j=tnG c (zd3 ts r c g) i j:=by
   constructor
   ·intro z t ht;have a:=(za1 hc).mp ht;have b:=(za1 hc).mp m1;have z1:=z (t.map (inv os)) (hp.mem_iff.mpr (ycT ht));have z2:=z ((zd3 ts r c g).map (inv os)) (hp.mem_iff.mpr (ycT m1));rw [zkJ a.1 hi hj] at z1;rw [zkJ b.1 hi hj] at z2;exact h.inv_inj (a.2.1.inr i j hi hj) (b.2.1.inr i j hi hj) (z1.trans z2.symm)
   ·intro z t ht;obtain ⟨u,hu,rfl⟩:=yat.mp (hp.mem_iff.mp ht);have a:=(za1 hc).mp hu;rw [<-e0,zkJ a.1 hi hj,zkJ l0.1 hi hj,z u hu,z t0 h0]
  have hn:(mvG os g i j).isNone=(g i j).isNone:=by unfold mvG;cases g i j<;>rfl
  constructor
  ·unfold zf0;rw [zhm h hc hg,hn,ybH.mpr key]
  ·intro z;unfold zf0 at z;rw [yac,ybh] at z;rw [<-e0,zkJ l0.1 hi hj,z.2 t0 h0]
def mvF(os:List Int):D->D | .tup [p,.int x]=>.tup [p,.int (inv os x)] | d=>d
def zml(h:Ord ts.length os)(hc:1<=c)(hg:InT ts g):za2 (newT ts os) r c (mvG os g)=(za2 ts r c g).map (mvF os):=by
 unfold za2;rw [ybI];apply zdU;intro d hd;obtain ⟨i,j,hi,hj,rfl⟩:=za0 hd;obtain ⟨e1,e2⟩:=ztJ (r:=r) h hc hg hi hj;rw [zfZ,zfZ,e1]
 by_cases z:zf0 ts r c g i j=true
 ·rw [if_pos z,if_pos z,e2 z];rfl
 ·rw [if_neg z,if_neg z];rfl
theorem zug{t:List Int}(h1:1<=ts.length)(ht:∀x∈t,0<=x/\x<ts.length)(i j:Nat):0<=tnG c t i j/\tnG c t i j<ts.length:=by
 unfold tnG;rw [yab]
 by_cases hk:i*c+j<t.length
 ·rw [yaa hk];exact ht _ (yaS hk)
 ·rw [yav (by omega)];show (0:Int)<=0/\(0:Int)<_;omega
def zmX(ht:t∈zae ts r c g):∀x∈t,0<=x/\x<ts.length:=((zc3 (ts:=ts) (gr:=zao r c g) (c:=c) (r*c)).mem t ht).2
def zj5(h:Ord ts.length os)(P:FP ts r c):FP (newT ts os) r c:=⟨ztG h P.ht,by rw [zcs h];exact P.h1,by rw [zcs h];exact P.h4,P.r1,P.c1,P.rc⟩
theorem znD(h1:1<=r)(hc:1<=c)(ht:t∈zae ts r c g):(zbd r c).filter (zkE r c r c (zap c t) g)=[plD 0 0]:=by
 have hf:zht r c (fun a b=>zap c t (0+a) (0+b)) g=true:=by
  rw [ziE];intro i j hi hj
  rcases zjm hc ht hi hj with z | z
  ·exact .inl z
  ·right;rw [yc1,yc1,z];rfl
 rw [<-zrs h1 hc];unfold zwB;rw [show (r:Int)-r+1=1 by omega,show (c:Int)-c+1=1 by omega,show zat 0 1=[.int 0] from rfl]
 have hw:zkE r c r c (zap c t) g (.tup [.int 0,.int 0])=true:=by
  show (decide (0+r<=r/\0+c<=c)&&zht r c (fun a b=>zap c t (0+a) (0+b)) g)=true;rw [hf];simp
 simp [hw]
def zlb(hc:1<=c)(ht:t∈zae ts r c g):clL ts r c (zap c t)=[]:=(zid (G:=tnG c t) ((za1 hc).mp ht).2.1.inr).mpr ((za1 hc).mp ht).2.1
end S2
namespace S2.L97
open PySem
open L2 hiding D
noncomputable def zgh:Fs :=
  (zaf (sFz [0] (zeb 6 5 (eFn zas [(zac 0),(zah zcn (zag (.int 400)) (zaq zcT [(zai 5)])),(zaq zcT [(zai 5)])]))) sNx)
noncomputable def zgZ:Fs:=zaf (sFz [] (zaS (zag (.bl true)))) sNx
noncomputable def zfn:Fs:=zaf (sFz [] (sIf (zah gtD (zai 9) (zag (.int 0))) (zaf (sFz [1,4,0,9] (zbg 12 false (eFn zfK [(zac 1),(zac 4),(eFn zas [(zac 0),(zag (.int 2)),(zac 9)])]))) (zaf (sFz [7,8,1,12,6,1,12] (sIf (eOr (zah zmi (eFn zcZ [(zac 7),(zac 8),(eFn zbK [(zac 1),(zac 12),(zac 6)])]) (zag (.bl true))) (zah neD (zah ixD (eFn zhe [(zac 1),(zac 12)]) (zag (.int 1))) (zag (.int 0)))) (zaf (sFz [] (zaS (zag (.bl false)))) sNx) sNx)) (zaf (sFz [4,0] (zbg 13 false (zah ixD (eFn zaC [(zac 4)]) (eFn zas [(zac 0),(zag (.int 3)),(zah zgC (zai 2) (zai 3))])))) (zaf (sFz [1,12,10,13] (zbg 14 false (eFn zc8 [(zac 1),(zac 12),(zac 10),(zac 13)]))) (zaf (sFz [1,14,1,14,12,4] (sIf (eOr (zah neD (eFn zck [(zac 1),(zac 14)]) (zah eqD (eFn zdv [(zac 1),(zac 14)]) (ze9 []))) (zah neD (eFn zeA [(zac 12),(zac 4)]) (ze9 [(zc5 [(zag (.int 0)),(zag (.int 0))])]))) (zaf (sFz [] (zaS (zag (.bl false)))) sNx) sNx)) (zaf (sFz [6] (zbg 15 false (zaq zbI [(zb1 1 (.one 0) (zd4 (zaq zcT [(zai 1)])) zdq (ziL 1 (zai 0)) [6])]))) (zaf (sFz [7,1,12,6,15] (zbg 16 false (eFn zbK [(zac 7),(eFn zbK [(zac 1),(zac 12),(zac 6)]),(zac 15)]))) (zaf (sFz [1,12,1,16] (sIf (zah neD (eFn zcX [(zac 1),(zac 12),(zag (.int 0)),(zag .non)]) (eFn zcX [(zac 1),(zac 16),(zag (.int 0)),(zag .non)])) (zaf (sFz [] (zaS (zag (.bl false)))) sNx) sNx)) sNx)))))))) sNx)) zgZ
noncomputable def zg0:Fs:=zaf (sFz [7,8,1,4,6] (sIf (zah neD (eFn zdO [(zac 7),(zac 8)]) (zb1 2 (.tup [0,1]) (zaB (eFn zdO [(zac 1),(zac 4)])) zdq (zc5 [(zac 0),(ziL 2 (zai 1))]) [6])) (zaf (sFz [] (zaS (zag (.bl false)))) sNx) sNx)) zfn
noncomputable def zjE:Fs:=zaf (sFz [8,7,6,10] (sIf (zah neD (zb1 1 (.one 0) (zd4 (zaq zcT [(zai 1)])) zdq (zah ixD (eFn zbD [(zac 2),(zac 1),(zac 4)]) (ziL 3 (zai 0))) [8,7,6,10]) (zai 11)) (zaf (sFz [] (zaS (zag (.bl false)))) sNx) sNx)) zg0
noncomputable def zg1:Fs:=zaf (sFz [1,4,10] (zbg 11 true (eFn zbD [(zac 1),(zac 4),(zac 10)]))) zjE
noncomputable def zlw:Fs:=zaf (sFz [4,0] (zbg 10 false (zah ixD (eFn zaC [(zac 4)]) (eFn zas [(zac 0),(zag (.int 1)),(zah zgC (zai 2) (zai 3))])))) zg1
noncomputable def zlx:Fs:=zaf (sFz [7,8] (sIf (zah neD (eFn zaA [(zac 7),(zac 8)]) (zai 9)) (zaf (sFz [] (zaS (zag (.bl false)))) sNx) sNx)) zlw
noncomputable def zly:Fs:=zaf (sFz [1,6,1,4,6,1,4] (zg6 (.tup [7,8,9]) (zc5 [(eFn zeB [(zac 1),(zac 6)]),(eFn zbK [(zac 1),(zac 4),(zac 6)]),(eFn zaA [(zac 1),(zac 4)])]))) zlx
noncomputable def zi2:Fs:=zaf (sFz [] (zbg 6 false (zaq zbI [(zai 6)]))) zly
noncomputable def zlz:Fs:=zaf (sFz [] (zh2 100000 (zah neD (zai 5) (ze9 [])) zgh)) zi2
noncomputable def zlA:Fs:=zaf (sFz [] (zkR 5 6 (eUn lrD (zaq zcT [(zai 1)])))) zlz
noncomputable def zlB:Fs:=zaf (sFz [0,1,2,3] (zbg 4 false (eFn zcD [(zac 0),(zag (.int 110)),(zac 1),(zac 2),(zac 3),(zag (.int 5))]))) zlA
noncomputable def zlC:Fs:=zaf (sFz [0] (zg6 (.tup [2,3]) (eFn zcC [(zac 0),(zag (.int 100))]))) zlB
noncomputable def zlD:Fs:=zaf (sFz [0] (zbg 1 false (eFn zcB [(zac 0),(zag (.int 200)),(zag (.int 4))]))) zlC
noncomputable def zro:Fs :=
  zlD
noncomputable def zsX:List S2.D->Sto->Out S2.D:=zbh 17 false zro
noncomputable abbrev Sl:=Option (Bool×D)
variable{ts:Z2}{os:List Int}{r c:Nat}{g:Z1}{S:Sto}{l:List Int}
def zwE:(D.lst (clL ts r c g)).pl=true:=by
 show D.pls (clL ts r c g)=true;rw [D.pls_iff];intro d hd;unfold clL at hd;obtain ⟨p,hp,hd⟩:=ybf.mp hd;obtain ⟨i,j,_,_,rfl⟩:=za0 hp;unfold clG at hd
 rcases ybr.mp hd with h | h<;>(split at h<;>first | (cases h;done) | (rw [yaF] at h;subst h;rfl))
theorem zur:(D.lst (clL ts r c g)).fit 9=true:=by
 show D.fits 8 (clL ts r c g)=true;rw [D.fits_iff];intro d hd;unfold clL at hd;obtain ⟨p,hp,hd⟩:=ybf.mp hd;obtain ⟨i,j,_,_,rfl⟩:=za0 hp;unfold clG at hd
 rcases ybr.mp hd with h | h<;>(split at h<;>first | (cases h;done) | (rw [yaF] at h;subst h;simp [clD,D.fit,D.fits,zhu];decide +kernel))
def zji(o:Ord ts.length os){x:Int}(hx:0<=x/\x<ts.length)(n5:ts.length<=5):zd8 (os.map D.int) (.int x)=some (.int (inv os x)):=by
 have hm:=o.mem.mpr hx;have hmem:zj7 (.int x) (os.map D.int)=true:=(zmq rfl zhf).mpr (ycT hm)
 have hf:(os.map D.int).findIdx (zfq · (.int x))=os.idxOf x:=by
  rw [List.findIdx_map];unfold List.idxOf
  have:((fun d=>zfq d (.int x))∘D.int)=fun y=>y == x:=by
   funext y;show zfq (.int y) (.int x)=(y == x);rw [zqt];rfl
  rw [this]
 unfold zd8;rw [hf,hmem,show (D.int x).fit 8=true from rfl,show D.fits 8 (os.map D.int)=true from zf6,yaD (show (os.map D.int).length<=1000000 by rw [yae,o.len];omega)];rfl
theorem zgr{α:Type}{I:α->Env->Prop}{fin:α->Prop}(m:α->Nat)(step:∀a ρ,I a ρ->(cd ρ S=.ok (.bl false) S/\fin a)\/(cd ρ S=.ok (.bl true) S/\∃a' ρ',body ρ S=.nx ρ' S/\I a' ρ'/\m a'<m a)):∀(n:Nat) (a:α) (ρ:Env),I a ρ->m a<n->∃a' ρ',zdk cd body n ρ S=.nx ρ' S/\I a' ρ'/\fin a'
 | 0,a,ρ,_,h=>absurd h (Nat.not_lt_zero _)
 | n+1,a,ρ,hI,hm=>by
  rcases step a ρ hI with ⟨e,hf⟩ | ⟨e,a',ρ',e2,hI',hlt⟩
  ·refine ⟨a,ρ,?_,hI,hf⟩;unfold zdk;rw [e];rfl
  ·obtain ⟨a2,ρ2,e3,h3⟩:=zgr m step n a' ρ' hI' (by omega);refine ⟨a2,ρ2,?_,h3⟩;unfold zdk;rw [e];show (match body ρ S with | .nx ρ' S'=>zdk cd body n ρ' S' | .ct ρ' S'=>zdk cd body n ρ' S' | .bk ρ' S'=>.nx ρ' S' | o=>o)=_;rw [e2];exact e3
def ztH:neD (.lst (ls.map D.int)) (.lst [])=some (.bl (!decide (ls=[]))):=by
 cases ls with
 | nil=>rfl
 | cons a ls =>
  have hf:D.fits 8 ((a::ls).map D.int)=true:=zf6;have h0:D.fits 8 []=true:=rfl
  have hp:zfq (.lst ((a::ls).map D.int)) (.lst [])=false:=by
   have:=(ziH (.lst ((a::ls).map D.int)) (.lst []) zhf rfl);unfold zfq;rw [<-Bool.not_eq_true,this];simp
  unfold neD;rw [show (D.lst ((a::ls).map D.int)).fit 9=true from hf,show (D.lst []).fit 9=true from h0,hp];simp
theorem zpH:∀(k:Nat) (L:List Int),(L.eraseIdx k).map D.int=(L.map D.int).eraseIdx k
 | _,[]=>by simp
 | 0,a::L=>rfl
 | k+1,a::L=>by rw [List.eraseIdx_cons_succ,yay,yay,List.eraseIdx_cons_succ,zpH k L]
theorem zoV(o:Ord ts.length os)(n5:ts.length<=5):zbm (.one 0) zdq (ziL 1 (zai 0)) [none,some (false,zad os)] (zat 0 (ts.length:Int)) S=.ok ((con ts.length os).map D.int) S:=by
 rw [zaK (g:=fun d=>match d with | .int x=>.int (inv os x) | _=>.non),zlW]
 ·unfold con zgk;rw [yaK,yaK];rfl
 ·intro d hd;obtain ⟨k,rfl,hk⟩:=zif hd;refine ⟨_,rfl,?_⟩;rw [zrg (l:=os.map D.int) (d:=.int k) (S1:=S) rfl rfl,zji o ⟨by omega,hk⟩ n5];rfl
def zhx{n:Nat}(h:n<=1000000):zbL (n:Int)=true:=zkq (Int.lt_of_lt_of_le (by decide) (ycU n)) (Int.lt_of_le_of_lt (Int.ofNat_le.mpr h) (by decide))
theorem zs6(hq:0<=q/\q<(r:Int)*c):∃i j,i<r/\j<c/\atI (zbd r c) q=some (plD i j):=by
 have hm:((r*c:Nat):Int)=(r:Int)*c:=by push_cast;rfl
 have hl:q.toNat<(zbd r c).length:=by rw [zbV];omega
 obtain ⟨i,j,hi,hj,e⟩:=za0 (yaS hl);refine ⟨i,j,hi,hj,?_⟩;rw [zdY hq.1,yaa hl,e]
def zv2:neD (.bl a) (.bl b)=some (.bl (!decide (a=b))):=by
 cases a<;>cases b<;>rfl
def zrB:eqD (.lst (clL ts r c g)) (.lst [])=some (.bl (decide (clL ts r c g=[]))):=by
 rw [zwA zwE rfl zur rfl];congr 2;rw [ybH,D.lst.injEq]
def zqV:neD (.lst [plD 0 0]) (.lst [.tup [.int 0,.int 0]])=some (.bl false):=by rfl
theorem t13{s0 s5 s11 s12 s13 s14 s15 s16:Sl}(P:FP ts r c)(o:Ord ts.length os)(n5:ts.length<=5)(hg:InT ts g)(hi:i<r)(hj:j<c):∃S',zfn [some (false,.scr l),some (false,.tup (ts.map zad)),some (false,.int r),some (false,.int c),some (false,flr r c g),s5,some (false,zad os),some (false,.tup ((newT ts os).map zad)),some (false,flr r c (mvG os g)),some (false,.int ((zae ts r c g).length:Nat)),some (false,plD i j),s11,s12,s13,s14,s15,s16] S=.rt (.bl true) S':=by
 have r6:=P.r6;have c6:=P.c6
 by_cases hm:(zae ts r c g).length=0
 ·refine ⟨S,?_⟩;rw [hm];generalize flr r c (mvG os g)=F1 at *;generalize flr r c g=F0 at *;generalize (newT ts os).map zad=N at *;generalize ts.map zad=T at *;generalize zad os=O at *;generalize plD i j=p at *;simp [zfn,zgZ]
 ·have pb:=zb4 l 2 (many:=((zae ts r c g).length:Int)) (by omega);have ep:=zbR (l:=l) (k:=2) (many:=((zae ts r c g).length:Int)) (S:=S) (by omega) (by omega);generalize zb9 l 2 ((zae ts r c g).length:Int)=q at *;obtain ⟨S1,e1⟩:=zjQ P hg q S;rw [if_pos pb] at e1
  have hq:q.toNat<(zae ts r c g).length:=by omega
  have ht:(zae ts r c g).getD q.toNat []∈zae ts r c g:=by
   rw [yab,yaa hq];exact yaS hq
  generalize (zae ts r c g).getD q.toNat []=t at *;have hn:=zmX ht;have hG:=zug (c:=c) P.h1 hn
  have hw:InT ts (zap c t):=fun a b x e=>by cases e;exact hG a b
  have e2:=zdt (S:=S1) o (by omega) hw (show r<=100 by omega) (show c<=100 by omega)
  have hG':∀a b,0<=inv os (tnG c t a b)/\inv os (tnG c t a b)<(newT ts os).length:=fun a b=>by rw [zcs o];exact o.inv_in (hG a b)
  have e3:=zi9 (g:=mvG os g) (zj5 o P) hG' S1
  have hmem:lsG r c (fun a b=>inv os (tnG c t a b))∈zae (newT ts os) r c (mvG os g):=by
   rw [zgE P.c1];have m:=(za1 P.c1).mp ht;refine ⟨⟨fun a b _ _=>hG' a b,fun a b ha hb=>?_,fun a b ha hb=>?_⟩,fun a b ha hb=>?_⟩
   ·rw [zdy o (hG a b),zdy o (hG a (b+1))];exact m.2.1.east a b ha hb
   ·rw [zdy o (hG a b),zdy o (hG (a+1) b)];exact m.2.1.south a b ha hb
   ·rcases m.2.2 a b ha hb with z | z
    ·left;unfold mvG;rw [z];rfl
    ·right;unfold mvG;rw [z];rfl
  rw [yaD hmem] at e3;have e3':zcZ [.tup ((newT ts os).map zad),flr r c (mvG os g),flr r c (mvG os (zap c t))] S1=.ok (.bl true) S1:=e3;clear e3 hmem hG';have hcl:=zlb P.c1 ht;have e4:=zlS (S:=S1) P.ht hw P.r1 (show r<=100 by omega) (show c<=100 by omega)
  have hz:znz unN ts r c (zap c t)=0:=by rw [<-zrC,hcl];rfl
  rw [hz] at e4;have hrc:0<(r:Int)*c:=Int.mul_pos (by have:=P.r1;omega) (by have:=P.c1;omega);have pb3:=zb4 l 3 (many:=(r:Int)*c) hrc;have ep3:=zbR (l:=l) (k:=3) (many:=(r:Int)*c) (S:=S1) (by omega) hrc;generalize zb9 l 3 ((r:Int)*c)=q3 at *;obtain ⟨i3,j3,hi3,hj3,ea3⟩:=zs6 (r:=r) (c:=c) pb3;have e5:=za9 (g:=g) (c:=c) (S:=S1) P.r1 (show r<=100 by omega) (show c<=100 by omega);have e6:=zg9 (T:=.tup (ts.map zad)) (g:=zap c t) (S:=S1) P.r1 (show r<=100 by omega) (show c<=100 by omega) hi hj hi3 hj3
  have hx:InT ts (zjC (zap c t) i j i3 j3):=fun a b x e=>by unfold zjC at e;exact hw _ _ x e
  have e7:=zh8 (S:=S1) P.ht hx P.r1 (show r<=100 by omega) (show c<=100 by omega)
  have hfull:ziD r c (zjC (zap c t) i j i3 j3)=true:=by unfold ziD zjC zap;simp
  rw [hfull,yc8] at e7;have e8:=zfH (S:=S1) P.ht hx P.r1 (show r<=100 by omega) (show c<=100 by omega);have q8:=zrB (ts:=ts) (r:=r) (c:=c) (g:=zjC (zap c t) i j i3 j3);have hl8:=znb (ts:=ts) (g:=zjC (zap c t) i j i3 j3) (show r<=100 by omega) (show c<=100 by omega);have q9:=zv2 (a:=decide (clL ts r c (zjC (zap c t) i j i3 j3)=[])) (b:=decide (clL ts r c (zjC (zap c t) i j i3 j3)=[]));rw [yaD rfl] at q9;have e9:=zi6 (g:=zap c t) (h:=g) (S:=S1) P.r1 (show r<=100 by omega) (show c<=100 by omega) P.r1 (show r<=100 by omega) P.c1 (show c<=100 by omega);rw [znD P.r1 P.c1 ht] at e9
  have oc:Ord (newT ts os).length (con ts.length os):=by rw [zcs o];exact o.con
  have e10:=zoV (S:=S1) o n5;have e11:=zdt (S:=S1) oc (by rw [zcs o];omega) (zoo o hw) (show r<=100 by omega) (show c<=100 by omega);rw [zqX o hw] at e11;have e12:=zh9 (ts:=ts.map zad) (a:=some 0) (b:=none) (g:=zap c t) (S:=S1) (fun x e=>by cases e) (show r<=100 by omega) (show c<=100 by omega);have q12:=zqW (r:=r) (c:=c) (g:=repG (zap c t) (some 0) none);have hT:(ts.map zad).length=ts.length:=yae ..
  have hcl':((con ts.length os).map D.int).length<=100000:=by rw [yae,o.con.len];omega
  have hrl:(zat 0 (ts.length:Int)).length<=100000:=by rw [zeY];omega
  have hpl:(zbd r c).length<=100000:=by rw [zbV];have:=P.rc;omega
  rw [show zad (con ts.length os)=D.tup ((con ts.length os).map D.int) from rfl] at e11
  have qz:neD (.int 0) (.int 0)=some (.bl false):=by rfl
  have qw:=zqV;refine ⟨S1,?_⟩
  have h64:-1000000<=(r:Int)/\(r:Int)<=1000000:=by omega
  have h65:-1000000<=(c:Int)/\(c:Int)<=1000000:=by omega
  have f1:zbL (r:Int)=true:=zhx (by omega);have f2:zbL (c:Int)=true:=zhx (by omega)
  have hpos:0<((zae ts r c g).length:Int):=by omega
  simp only [oD] at e12;generalize clL ts r c (zjC (zap c t) i j i3 j3)=CL at *;generalize flr r c (repG (zap c t) (some 0) none)=F9 at *;generalize flr r c (zjC (zap c t) i j i3 j3)=F8 at *;generalize flr r c (mvG os (zap c t))=F7 at *;generalize flr r c (zap c t)=F6 at *;generalize (con ts.length os).map D.int=C at *;generalize flr r c (mvG os g)=F1 at *;generalize flr r c g=F0 at *;generalize (newT ts os).map zad=N at *;generalize ts.map zad=T at *;generalize zad os=O at *;generalize zbd r c=PL at *;generalize plD i j=p at *;generalize plD i3 j3=p3 at *;generalize ((zae ts r c g).length:Int)=M at *;generalize ((znz alN ts r c (zap c t):Nat):Int)=A1 at *;simp [zfn,zgZ,ep,e1,e2,e3',e4,ep3,e5,ea3,e6,e7,e8,q8,q9,e9,qw,hT,e10,e11,e12,q12,qz,hcl',hrl,hpl,h64,h65,f1,f2,hpos,show CL.length<=100000 by omega,show ts.length<=100000 by omega,show -1000000<=(ts.length:Int)/\(ts.length:Int)<=1000000 by omega]
def zwz:(D.lst (za2 ts r c g)).pl=true:=by
 show D.pls (za2 ts r c g)=true;rw [D.pls_iff];intro d hd;obtain ⟨i,j,_,_,_,rfl⟩:=ze0.mp hd;rfl
def zuh:(D.lst (za2 ts r c g)).fit 9=true:=by
 show D.fits 8 (za2 ts r c g)=true;rw [D.fits_iff];intro d hd;obtain ⟨i,j,_,_,_,rfl⟩:=ze0.mp hd;rfl
theorem t12(P:FP ts r c)(o:Ord ts.length os)(n5:ts.length<=5)(hg:InT ts g)(hi:i<r)(hj:j<c):∃S',zg0 [some (false,.scr l),some (false,.tup (ts.map zad)),some (false,.int r),some (false,.int c),some (false,flr r c g),s5,some (false,zad os),some (false,.tup ((newT ts os).map zad)),some (false,flr r c (mvG os g)),some (false,.int ((zae ts r c g).length:Nat)),some (false,plD i j),s11,s12,s13,s14,s15,s16] S=.rt (.bl true) S':=by
 have P':=zj5 o P;obtain ⟨S1,e1⟩:=zgw P' (zoo o hg) S;obtain ⟨S2,e2⟩:=zgw P hg S1
 have e3:zbm (.tup [0,1]) zdq (zc5 [(zac 0),(ziL 2 (zai 1))]) [none,none,some (false,zad os)] (za2 ts r c g) S2=.ok (za2 (newT ts os) r c (mvG os g)) S2:=by
  rw [zaK (g:=mvF os),zml o P.c1 hg];intro d hd;obtain ⟨a,b,ha,hb,hf,rfl⟩:=ze0.mp hd
  have hne:zae ts r c g≠[]:=by
   intro z;unfold zf0 at hf;rw [z] at hf;simp at hf
  have hx:=zko P.c1 (zfu hne) ha hb;refine ⟨_,rfl,?_⟩;have q:=zrg (ρ:=[some (false,plD a b),some (false,.int (tnG c (zd3 ts r c g) a b)),some (false,zad os)]) (i:=2) (l:=os.map D.int) (f:=zai 1) (d:=.int (tnG c (zd3 ts r c g) a b)) (S:=S2) (S1:=S2) rfl rfl;rw [zji o hx n5] at q;show zc5 [(zac 0),(ziL 2 (zai 1))] [some (false,plD a b),some (false,.int (tnG c (zd3 ts r c g) a b)),some (false,zad os)] S2=.ok (.tup [plD a b,.int (inv os (tnG c (zd3 ts r c g) a b))]) S2;generalize zad os=O at *;generalize plD a b=p at *;simp [q]
 have q1:=zhl (zwz (ts:=newT ts os) (r:=r) (c:=c) (g:=mvG os g)) zuh;have r6:=P.r6;have c6:=P.c6;have l1:=zgJ (ts:=ts) (r:=r) (c:=c) (g:=g);have l2:=zgJ (ts:=newT ts os) (r:=r) (c:=c) (g:=mvG os g);have rc:=P.rc;obtain ⟨S3,e4⟩:=t13 (l:=l) (s0:=none) (s5:=s5) (s11:=s11) (s12:=s12) (s13:=s13) (s14:=s14) (s15:=s15) (s16:=s16) (S:=S2) P o n5 hg hi hj;refine ⟨S3,?_⟩;generalize za2 (newT ts os) r c (mvG os g)=A1 at *;generalize za2 ts r c g=A2 at *;generalize flr r c (mvG os g)=F1 at *;generalize flr r c g=F0 at *;generalize (newT ts os).map zad=N at *;generalize ts.map zad=T at *;generalize zad os=O at *;generalize plD i j=p at *;generalize ((zae ts r c g).length:Int)=M at *;simp [zg0,e1,e2,e3,q1,e4,show A1.length<=100000 by omega,show A2.length<=100000 by omega]
def zwD(h:∀d∈ns,∃x:Int,d=.int x):(D.lst ns).pl=true:=by
 show D.pls ns=true;rw [D.pls_iff];intro d hd;obtain ⟨x,rfl⟩:=h d hd;rfl
def zuo(h:∀d∈ns,∃x:Int,d=.int x):(D.lst ns).fit 9=true:=by
 show D.fits 8 ns=true;rw [D.fits_iff];intro d hd;obtain ⟨x,rfl⟩:=h d hd;exact zhu
theorem t10(P:FP ts r c)(o:Ord ts.length os)(n5:ts.length<=5)(hg:InT ts g)(hi:i<r)(hj:j<c):∃S',zg1 [some (false,.scr l),some (false,.tup (ts.map zad)),some (false,.int r),some (false,.int c),some (false,flr r c g),s5,some (false,zad os),some (false,.tup ((newT ts os).map zad)),some (false,flr r c (mvG os g)),some (false,.int ((zae ts r c g).length:Nat)),some (false,plD i j),s11,s12,s13,s14,s15,s16] S=.rt (.bl true) S':=by
 have P':=zj5 o P;obtain ⟨S1,e1⟩:=zex P hg hi hj S
 have step:∀d∈zat 0 (ts.length:Int),∀S,∃ρ1 S',(Tg.one 0).put [none,some (false,flr r c (mvG os g)),some (false,.tup ((newT ts os).map zad)),some (false,zad os),some (false,plD i j)] d=some ρ1/\(zah ixD (eFn zbD [(zac 2),(zac 1),(zac 4)]) (ziL 3 (zai 0))) ρ1 S=.ok ((fun d=>match d with | .int x=>.int (zfl ts r c g i j x:Nat) | _=>.non) d) S':=by
  intro d hd S;obtain ⟨k,rfl,hk⟩:=zif hd;obtain ⟨S',e⟩:=zex P' (zoo o hg) hi hj S;refine ⟨_,S',rfl,?_⟩;have hx:0<=(k:Int)/\(k:Int)<ts.length:=⟨by omega,hk⟩;have hb:=o.inv_in hx
  have ea:atI (zkw (newT ts os) r c (mvG os g) i j) (inv os k)=some (.int (zfl ts r c g i j k:Nat)):=by
   rw [zdY hb.1];unfold zkw;rw [zcs o,yal,yb6 (by omega)];show some (D.int (zfl (newT ts os) r c (mvG os g) i j (((inv os k).toNat:Nat):Int):Nat))=_;rw [show (((inv os k).toNat:Nat):Int)=inv os k by omega,ztK o P.c1 hg hi hj hx]
  have q:=zrg (ρ:=[some (false,.int k),some (false,flr r c (mvG os g)),some (false,.tup ((newT ts os).map zad)),some (false,zad os),some (false,plD i j)]) (i:=3) (l:=os.map D.int) (f:=zai 0) (d:=.int k) (S:=S') (S1:=S') rfl rfl;rw [zji o hx n5] at q
  have hcl:(zkw (newT ts os) r c (mvG os g) i j).length<=100000:=by unfold zkw;rw [yae,yby,zcs o];omega
  show (zah ixD (eFn zbD [(zac 2),(zac 1),(zac 4)]) (ziL 3 (zai 0))) [some (false,.int k),some (false,flr r c (mvG os g)),some (false,.tup ((newT ts os).map zad)),some (false,zad os),some (false,plD i j)] S=.ok (.int (zfl ts r c g i j k:Nat)) S';generalize zkw (newT ts os) r c (mvG os g) i j=CN at *;generalize flr r c (mvG os g)=F1 at *;generalize (newT ts os).map zad=N at *;generalize zad os=O at *;generalize plD i j=p at *;generalize ((zfl ts r c g i j k:Nat):Int)=cn at *;simp [e,q,ea,hcl]
 obtain ⟨S2,e2⟩:=zgS step S1
 have em:(zat 0 (ts.length:Int)).map (fun d=>match d with | .int x=>D.int (zfl ts r c g i j x:Nat) | _=>.non)=zkw ts r c g i j:=by
  rw [zlW];rfl
 rw [em] at e2
 have hcs:∀d∈zkw ts r c g i j,∃x:Int,d=.int x:=fun d hd=>by
  unfold zkw at hd;obtain ⟨k,_,rfl⟩:=yat.mp hd;exact ⟨_,rfl⟩
 have q1:=zhl (zwD hcs) (zuo hcs)
 have hl:(zkw ts r c g i j).length<=100000:=by unfold zkw;rw [yae,yby];omega
 have hrl:(zat 0 (ts.length:Int)).length<=100000:=by rw [zeY];omega
 obtain ⟨S3,e4⟩:=t12 (l:=l) (s5:=s5) (s11:=some (true,.lst (zkw ts r c g i j))) (s12:=s12) (s13:=s13) (s14:=s14) (s15:=s15) (s16:=s16) (S:=S2) P o n5 hg hi hj;refine ⟨S3,?_⟩;have hT:(ts.map zad).length=ts.length:=yae ..;clear step em hcs;generalize zkw ts r c g i j=A1 at *;generalize flr r c (mvG os g)=F1 at *;generalize flr r c g=F0 at *;generalize (newT ts os).map zad=N at *;generalize ts.map zad=T at *;generalize zad os=O at *;generalize plD i j=p at *;generalize ((zae ts r c g).length:Int)=M at *;simp [zg1,zjE,e1,hT,e2,q1,e4,hl,hrl,show ts.length<=100000 by omega,show -1000000<=(ts.length:Int)/\(ts.length:Int)<=1000000 by omega]
theorem t6(P:FP ts r c)(o:Ord ts.length os)(n5:ts.length<=5)(hg:InT ts g):∃S',zi2 [some (false,.scr l),some (false,.tup (ts.map zad)),some (false,.int r),some (false,.int c),some (false,flr r c g),s5,some (true,.lst (os.map D.int)),s7,s8,s9,s10,s11,s12,s13,s14,s15,s16] S=.rt (.bl true) S':=by
 have r6:=P.r6;have c6:=P.c6;have e1:=zkU (S:=S) o (by omega);have e2:=zdt (S:=S) o (by omega) hg (show r<=100 by omega) (show c<=100 by omega);obtain ⟨S1,e3⟩:=zdu P hg S;obtain ⟨S2,e4⟩:=zdu (zj5 o P) (zoo o hg) S1
 have hlen:(zae (newT ts os) r c (mvG os g)).length=(zae ts r c g).length:=by
  have:=(zft (r:=r) o P.c1 hg).length_eq;rwa [yae] at this
 rw [hlen] at e4;have hrc:0<(r:Int)*c:=Int.mul_pos (by have:=P.r1;omega) (by have:=P.c1;omega);have pb3:=zb4 l 1 (many:=(r:Int)*c) hrc;have ep3:=zbR (l:=l) (k:=1) (many:=(r:Int)*c) (S:=S2) (by omega) hrc;generalize zb9 l 1 ((r:Int)*c)=q3 at *;obtain ⟨i,j,hi,hj,ea⟩:=zs6 (r:=r) (c:=c) pb3;have e5:=za9 (g:=g) (c:=c) (S:=S2) P.r1 (show r<=100 by omega) (show c<=100 by omega);have q4:neD (.int ((zae ts r c g).length:Nat)) (.int ((zae ts r c g).length:Nat))=some (.bl false):=zhl rfl zhu;obtain ⟨S3,e6⟩:=t10 (l:=l) (s5:=s5) (s11:=s11) (s12:=s12) (s13:=s13) (s14:=s14) (s15:=s15) (s16:=s16) (S:=S2) P o n5 hg hi hj;refine ⟨S3,?_⟩;have f1:zbL (r:Int)=true:=zhx (by omega);have f2:zbL (c:Int)=true:=zhx (by omega)
 have hpl:(zbd r c).length<=100000:=by rw [zbV];have:=P.rc;omega
 have hol:(os.map D.int).length<=100000:=by rw [yae,o.len];omega
 rw [show zad os=D.tup (os.map D.int) from rfl] at *;generalize flr r c (mvG os g)=F1 at *;generalize flr r c g=F0 at *;generalize (newT ts os).map zad=N at *;generalize ts.map zad=T at *;generalize os.map D.int=O at *;generalize zbd r c=PL at *;generalize plD i j=p at *;generalize ((zae ts r c g).length:Int)=M at *;simp [zi2,zly,zlx,zlw,e1,e2,e3,e4,q4,ep3,e5,ea,e6,f1,f2,hpl,hol]
noncomputable def mk3(l:List Int)(T F a b:D)(L O:List Int):Env:=[some (false,.scr l),some (false,T),some (false,a),some (false,b),some (false,F),some (true,.lst (L.map D.int)),some (true,.lst (O.map D.int)),none,none,none,none,none,none,none,none,none,none]
theorem zn6(hL:L≠[])(h5:L.length<=100)(h6:O.length<=100):∃(q:Nat) (x:Int),L[q]?=some x/\zgh (mk3 l T F a b L O) S=.nx (mk3 l T F a b (L.eraseIdx q) (O++[x])) S:=by
 have hpos:0<L.length:=ycR.mpr hL;have pb:=zb4 l (400+(L.length:Int)) (many:=(L.length:Int)) (by omega);have ep:=zbR (l:=l) (k:=400+(L.length:Int)) (many:=(L.length:Int)) (S:=S) (by omega) (by omega);generalize zb9 l (400+(L.length:Int)) (L.length:Int)=q at *;obtain ⟨q,rfl⟩:=ybl pb.1
 have hq:q<L.length:=by omega
 refine ⟨q,L[q],yaa hq,?_⟩;have hlen:(L.map D.int).length=L.length:=yae ..
 have hy:(L.map D.int)[q]?=some (.int L[q]):=by rw [yal,yaa hq];rfl
 have he:(L.eraseIdx q).map D.int=(L.map D.int).eraseIdx q:=zpH q L
 have ho:(O++[L[q]]).map D.int=O.map D.int++[.int L[q]]:=by simp
 unfold mk3;rw [he,ho]
 have hol:(O.map D.int).length<=100000:=by rw [yae];omega
 have hll:(L.map D.int).length<=100000:=by omega
 have hpk:∀ρ:Env,ρ[0]?=some (some (false,.scr l))->ρ[5]?=some (some (true,.lst (L.map D.int)))->(eFn zas [(zac 0),(zah zcn (zag (.int 400)) (zaq zcT [(zai 5)])),(zaq zcT [(zai 5)])]) ρ S=.ok (.int q) S:=by
  intro ρ h0 h3;generalize L.map D.int=M at *;simp [h0,h3,hlen,ep,show -1000000<=(L.length:Int)/\(L.length:Int)<=1000000 by omega,show L.length<=100000 by omega]
 generalize L[q]=x at *;generalize L.map D.int=M at *;generalize O.map D.int=P at *;have ap:=zuG (i:=6) (j:=5) (l:=P) (m:=M) (q:=q) (y:=.int x) (S:=S) (S1:=S) (f:=eFn zas [(zac 0),(zah zcn (zag (.int 400)) (zaq zcT [(zai 5)])),(zaq zcT [(zai 5)])]) (ρ:=[some (false,.scr l),some (false,T),some (false,a),some (false,b),some (false,F),some (true,.lst M),some (true,.lst P),none,none,none,none,none,none,none,none,none,none]) rfl rfl (by decide) (hpk _ rfl rfl) hy hol hll;unfold zgh;show (zaf (sFz [0] _) sNx) _ S=_;rw [show ∀(a b:Fs) ρ,zaf a b ρ S=(a ρ S).seq b from fun _ _ _=>rfl];show (zeb 6 5 _ (frz [0] _) S).seq sNx=_;rw [show frz [0] [some (false,.scr l),some (false,T),some (false,a),some (false,b),some (false,F),some (true,D.lst M),some (true,D.lst P),none,none,none,none,none,none,none,none,none,none]=[some (false,.scr l),some (false,T),some (false,a),some (false,b),some (false,F),some (true,D.lst M),some (true,D.lst P),none,none,none,none,none,none,none,none,none,none] from rfl,ap];rfl
theorem zv6(hn:n<=5):∃os,Ord n os/\zdk (zah neD (zai 5) (ze9 [])) zgh 100000 (mk3 l T F a b (zgk n) []) S=.nx (mk3 l T F a b [] os) S:=by
 obtain ⟨s,ρ',e,⟨hp,rfl⟩,hfin⟩:=zgr (cd:=zah neD (zai 5) (ze9 [])) (body:=zgh) (S:=S) (I:=fun (s:List Int×List Int) ρ=>(s.1++s.2).Perm (zgk n)/\ρ=mk3 l T F a b s.1 s.2) (fin:=fun s=>s.1=[]) (fun s=>s.1.length) (by
  rintro ⟨L,O⟩ ρ ⟨hp,rfl⟩
  have hlen:L.length+O.length=n:=by
   have:=hp.length_eq;rwa [yah,zfs] at this
  have hcd:zah neD (zai 5) (ze9 []) (mk3 l T F a b L O) S=.ok (.bl (!decide (L=[]))) S:=by
   have q:=ztH (ls:=L);unfold mk3;generalize L.map D.int=M at *;generalize O.map D.int=P at *;simp [q]
  by_cases hL:L=[]
  ·left;rw [hcd,yaD hL];exact ⟨rfl,hL⟩
  ·right;rw [hcd,yaJ hL];obtain ⟨q,x,hx,eb⟩:=zn6 (l:=l) (S:=S) (T:=T) (F:=F) (a:=a) (b:=b) (L:=L) (O:=O) hL (by omega) (by omega);have hq:=(yan.mp hx).1;refine ⟨rfl,(L.eraseIdx q,O++[x]),_,eb,⟨?_,rfl⟩,?_⟩
   ·have hx':L[q]=x:=(yan.mp hx).2
    have p1:(x::L.eraseIdx q).Perm L:=by rw [<-hx'];exact ST.zgO L q hq
    have p2:(L.eraseIdx q++(O++[x])).Perm (L++O):=by
     refine List.Perm.trans ?_ (List.Perm.append_right O p1);rw [<-ycr];exact List.perm_append_comm
    exact p2.trans hp
   ·show (L.eraseIdx q).length<L.length
    rw [List.length_eraseIdx_of_lt hq];omega) 100000 (zgk n,[]) (mk3 l T F a b (zgk n) []) ⟨by rw [yaX],rfl⟩ (by show (zgk n).length<100000;rw [zfs];omega)
 obtain ⟨L,O⟩:=s;dsimp only at hfin hp e;subst hfin;exact ⟨O,hp,e⟩
theorem zov(l:List Int)(hl:l.length<=63):∃S,zsX [.scr l] []=.ok (.bl true) S:=by
 obtain ⟨ts,hT,et⟩:=zlQ (l:=l) (at':=200) (most:=4) (S:=[]) (by omega) (by omega) (by omega);obtain ⟨r,c,h1,hr,c1,hc,hrc,es⟩:=zlR (l:=l) (at':=100) (S:=[]) (by omega);have n1:=hT.ne;have n4:=hT.le
 have n5:ts.length<=5:=by omega
 have P:FP ts r c:=⟨⟨hT.four,by omega⟩,n1,zvM n5 hrc,h1,c1,hrc⟩
 have hp:0<((ts.map zad).length:Int)*5:=by rw [yae];omega
 have ef:=zlU (l:=l) (at':=110) (m:=5) (ts:=ts.map zad) (r:=r) (c:=c) (S:=[]) (by omega) hp (zkq (by omega) (by omega)) (by omega) (by omega) (by omega) (by omega);rw [yaB,yaB] at ef
 have hg:InT ts (zlk l 110 (ts.map zad).length 5):=fun i j x e=>by
  have:=ztB hp x e;rwa [yae] at this
 generalize zlk l 110 (ts.map zad).length 5=g at *;obtain ⟨os,o,ew⟩:=zv6 (l:=l) (S:=[]) (T:=.tup (ts.map zad)) (F:=flr r c g) (a:=.int r) (b:=.int c) n5;obtain ⟨S2,e6⟩:=t6 (l:=l) (s5:=some (true,.lst [])) (s7:=none) (s8:=none) (s9:=none) (s10:=none) (s11:=none) (s12:=none) (s13:=none) (s14:=none) (s15:=none) (s16:=none) (S:=[]) P o n5 hg;refine ⟨S2,?_⟩;have hT':(ts.map zad).length=ts.length:=yae ..
 have elr:lrD (.int (ts.length:Int))=some (.lst ((zgk ts.length).map D.int)):=by
  show (if decide ((0:Int)<=(ts.length:Int)/\(ts.length:Int)<=1000) then _ else _)=_;rw [if_pos (yaD (by omega)),yaB];unfold zgk;rw [yaK];rfl
 unfold mk3 at ew;rw [show ([]:List Int).map D.int=[] from rfl] at ew;generalize (zgk ts.length).map D.int=NN at *;generalize os.map D.int=O at *;generalize flr r c g=F at *;generalize ts.map zad=T at *;simp only [zsX,zal,zro,zlD,zlC,zlB,zlA,zlz];have p3:=fun (ρ:Env) h1=>zti (ρ:=ρ) (S:=[]) (i:=5) (j:=6) (f:=eUn lrD (zaq zcT [(zai 1)])) (d:=.lst NN) (S1:=[]) h1
 simp [et,es,ef,hT',elr,p3,zh2,ew,e6,show ts.length<=100000 by omega]
end S2.L97
namespace M97
open PySem L2 S2 S2.L97
noncomputable def top(i:Nat):Stmt:=PySem.Challenge.pw_floorfits_k97_whole_fills_told_otherwise.main.body.getD i (.Pass ⟨0,0,0,0⟩)
def T:Tab:=⟨[("NORTH",.int 0),("EAST",.int 1),("SOUTH",.int 2),("WEST",.int 3)],["isinstance","int","bool","tuple","list","len","range","all","sum","enumerate","max","zip","set","ValueError"],["FloorError","NoPlace","NoTile","NoFill"],[("NoPlace","FloorError"),("NoTile","FloorError"),("NoFill","FloorError")],[],[("Ways","tiles"),("Ways","ground"),("Ways","size"),("Ways","is_round"),("Ways","known")],["known"],["numbers"]⟩
noncomputable def F0:Fn3:=⟨"",[],[],[]⟩
noncomputable def F1:Fn3:=F0.fn "is_whole" ⟨1,false,zaT⟩
def d1:zaj (Gn T F0) false ["thing"] (top 11)=some zdV:=by rfl
theorem s1:FnScope ["thing"] ["thing"] (zab (top 11)):=⟨rfl,rfl,rfl,by decide +kernel,rfl,by decide +kernel,by decide +kernel⟩
noncomputable def F2:Fn3:=F1.fn "is_tuple_of" ⟨3,false,zaz⟩
def d2:zaj (Gn T F1) false ["thing","least","most"] (top 12)=some zcf:=by rfl
theorem s2:FnScope ["thing","least","most"] ["thing","least","most"] (zab (top 12)):=⟨rfl,rfl,rfl,by decide +kernel,rfl,by decide +kernel,by decide +kernel⟩
noncomputable def F3:Fn3:=F2.fn "has_number" ⟨2,false,zaE⟩
def d3:zaj (Gn T F2) false ["tiles","thing"] (top 13)=some zcI:=by rfl
theorem s3:FnScope ["tiles","thing"] ["tiles","thing"] (zab (top 13)):=⟨rfl,rfl,rfl,by decide +kernel,rfl,by decide +kernel,by decide +kernel⟩
noncomputable def F4:Fn3:=F3.fn "may_lie" ⟨2,false,zbT⟩
def d4:zaj (Gn T F3) false ["tiles","thing"] (top 14)=some zc4:=by rfl
theorem s4:FnScope ["tiles","thing"] ["tiles","thing"] (zab (top 14)):=⟨rfl,rfl,rfl,by decide +kernel,rfl,by decide +kernel,by decide +kernel⟩
noncomputable def F5:Fn3:=F4.fn "size_of" ⟨1,false,zbS⟩
def d5:zaj (Gn T F4) false ["floor","columns"] (top 15)=some zgb:=by rfl
theorem s5:FnScope ["floor","columns"] ["floor"] (zab (top 15)):=⟨rfl,rfl,rfl,by decide +kernel,rfl,by decide +kernel,by decide +kernel⟩
noncomputable def F6:Fn3:=F5.fn "places_of" ⟨1,true,zaC⟩
def d6:zaj (Gn T F5) true ["floor","size","places","row","column"] (top 16)=some zek:=by rfl
theorem s6:FnScope ["floor","size","places","row","column"] ["floor"] (zab (top 16)):=⟨rfl,rfl,rfl,by decide +kernel,rfl,by decide +kernel,by decide +kernel⟩
noncomputable def F7:Fn3:=F6.fn "is_row_like" ⟨2,false,zbU⟩
def d7:zaj (Gn T F6) false ["row","thing"] (top 17)=some zdf:=by rfl
theorem s7:FnScope ["row","thing"] ["row","thing"] (zab (top 17)):=⟨rfl,rfl,rfl,by decide +kernel,rfl,by decide +kernel,by decide +kernel⟩
noncomputable def F8:Fn3:=F7.fn "is_like" ⟨2,false,zcY⟩
def d8:zaj (Gn T F7) false ["floor","thing"] (top 18)=some zeO:=by rfl
theorem s8:FnScope ["floor","thing"] ["floor","thing"] (zab (top 18)):=⟨rfl,rfl,rfl,by decide +kernel,rfl,by decide +kernel,by decide +kernel⟩
noncomputable def F9:Fn3:=F8.fn "in_rows" ⟨2,false,zeD⟩
def d9:zaj (Gn T F8) false ["numbers","size"] (top 19)=some zgc:=by rfl
theorem s9:FnScope ["numbers","size"] ["numbers","size"] (zab (top 19)):=⟨rfl,rfl,rfl,by decide +kernel,rfl,by decide +kernel,by decide +kernel⟩
noncomputable def F10:Fn3:=F9.fn "number_at" ⟨2,false,zam⟩
def d10:zaj (Gn T F9) false ["floor","place"] (top 20)=some zel:=by rfl
theorem s10:FnScope ["floor","place"] ["floor","place"] (zab (top 20)):=⟨rfl,rfl,rfl,by decide +kernel,rfl,by decide +kernel,by decide +kernel⟩
noncomputable def F11:Fn3:=F10.fn "laid_places" ⟨1,true,zcd⟩
def d11:zaj (Gn T F10) true ["floor"] (top 21)=some zdd:=by rfl
theorem s11:FnScope ["floor"] ["floor"] (zab (top 21)):=⟨rfl,rfl,rfl,by decide +kernel,rfl,by decide +kernel,by decide +kernel⟩
noncomputable def F12:Fn3:=F11.fn "has_tiles_of" ⟨2,false,zbw⟩
def d12:zaj (Gn T F11) false ["whole","floor"] (top 22)=some zcO:=by rfl
theorem s12:FnScope ["whole","floor"] ["whole","floor"] (zab (top 22)):=⟨rfl,rfl,rfl,by decide +kernel,rfl,by decide +kernel,by decide +kernel⟩
noncomputable def F13:Fn3:=F12.fn "has_place" ⟨2,false,zbi⟩
def d13:zaj (Gn T F12) false ["floor","place","size"] (top 23)=some zem:=by rfl
theorem s13:FnScope ["floor","place","size"] ["floor","place"] (zab (top 23)):=⟨rfl,rfl,rfl,by decide +kernel,rfl,by decide +kernel,by decide +kernel⟩
noncomputable def F14:Fn3:=F13.fn "refuse_outside" ⟨2,false,za7⟩
def d14:zaj (Gn T F13) false ["floor","place"] (top 24)=some zcb:=by rfl
theorem s14:FnScope ["floor","place"] ["floor","place"] (zab (top 24)):=⟨rfl,rfl,rfl,by decide +kernel,rfl,by decide +kernel,by decide +kernel⟩
noncomputable def F15:Fn3:=F14.fn "tile_at" ⟨2,false,zcV⟩
def d15:zaj (Gn T F14) false ["floor","place"] (top 25)=some zf9:=by rfl
theorem s15:FnScope ["floor","place"] ["floor","place"] (zab (top 25)):=⟨rfl,rfl,rfl,by decide +kernel,rfl,by decide +kernel,by decide +kernel⟩
noncomputable def F16:Fn3:=F15.fn "with_number" ⟨3,false,zbo⟩
def d16:zaj (Gn T F15) false ["floor","place","number","old","row"] (top 26)=some zdc:=by rfl
theorem s16:FnScope ["floor","place","number","old","row"] ["floor","place","number"] (zab (top 26)):=⟨rfl,rfl,rfl,by decide +kernel,rfl,by decide +kernel,by decide +kernel⟩
noncomputable def F17:Fn3:=F16.fn "with_tile" ⟨4,false,zcq⟩
def d17:zaj (Gn T F16) false ["tiles","floor","place","number"] (top 27)=some zej:=by rfl
theorem s17:FnScope ["tiles","floor","place","number"] ["tiles","floor","place","number"] (zab (top 27)):=⟨rfl,rfl,rfl,by decide +kernel,rfl,by decide +kernel,by decide +kernel⟩
noncomputable def F18:Fn3:=F17.fn "edge_at" ⟨4,false,zaU⟩
def d18:zaj (Gn T F17) false ["tiles","floor","place","side"] (top 28)=some zdD:=by rfl
theorem s18:FnScope ["tiles","floor","place","side"] ["tiles","floor","place","side"] (zab (top 28)):=⟨rfl,rfl,rfl,by decide +kernel,rfl,by decide +kernel,by decide +kernel⟩
noncomputable def F19:Fn3:=F18.fn "colours_east" ⟨3,false,zbx⟩
def d19:zaj (Gn T F18) false ["tiles","floor","place","beside"] (top 29)=some zcP:=by rfl
theorem s19:FnScope ["tiles","floor","place","beside"] ["tiles","floor","place"] (zab (top 29)):=⟨rfl,rfl,rfl,by decide +kernel,rfl,by decide +kernel,by decide +kernel⟩
noncomputable def F20:Fn3:=F19.fn "colours_south" ⟨3,false,zbj⟩
def d20:zaj (Gn T F19) false ["tiles","floor","place","below"] (top 30)=some zcv:=by rfl
theorem s20:FnScope ["tiles","floor","place","below"] ["tiles","floor","place"] (zab (top 30)):=⟨rfl,rfl,rfl,by decide +kernel,rfl,by decide +kernel,by decide +kernel⟩
noncomputable def F21:Fn3:=F20.fn "do_clash" ⟨1,false,zc0⟩
def d21:zaj (Gn T F20) false ["colours"] (top 31)=some ze8:=by rfl
theorem s21:FnScope ["colours"] ["colours"] (zab (top 31)):=⟨rfl,rfl,rfl,by decide +kernel,rfl,by decide +kernel,by decide +kernel⟩
noncomputable def F22:Fn3:=F21.fn "clashes" ⟨2,true,zdv⟩
def d22:zaj (Gn T F21) true ["tiles","floor","found","place"] (top 32)=some zgd:=by rfl
theorem s22:FnScope ["tiles","floor","found","place"] ["tiles","floor"] (zab (top 32)):=⟨rfl,rfl,rfl,by decide +kernel,rfl,by decide +kernel,by decide +kernel⟩
noncomputable def F23:Fn3:=F22.fn "is_right" ⟨2,false,zck⟩
def d23:zaj (Gn T F22) false ["tiles","floor"] (top 33)=some zdW:=by rfl
theorem s23:FnScope ["tiles","floor"] ["tiles","floor"] (zab (top 33)):=⟨rfl,rfl,rfl,by decide +kernel,rfl,by decide +kernel,by decide +kernel⟩
noncomputable def F24:Fn3:=F23.fn "exchanged" ⟨4,false,zc8⟩
def d24:zaj (Gn T F23) false ["tiles","floor","one","other","first","second"] (top 35)=some zen:=by rfl
theorem s24:FnScope ["tiles","floor","one","other","first","second"] ["tiles","floor","one","other"] (zab (top 35)):=⟨rfl,rfl,rfl,by decide +kernel,rfl,by decide +kernel,by decide +kernel⟩
noncomputable def F25:Fn3:=F24.fn "is_order" ⟨2,false,zcl⟩
def d25:zaj (Gn T F24) false ["tiles","thing"] (top 36)=some ze6:=by rfl
theorem s25:FnScope ["tiles","thing"] ["tiles","thing"] (zab (top 36)):=⟨rfl,rfl,rfl,by decide +kernel,rfl,by decide +kernel,by decide +kernel⟩
noncomputable def F26:Fn3:=F25.fn "refuse_no_order" ⟨2,false,zaw⟩
def d26:zaj (Gn T F25) false ["tiles","order"] (top 37)=some zb5:=by rfl
theorem s26:FnScope ["tiles","order"] ["tiles","order"] (zab (top 37)):=⟨rfl,rfl,rfl,by decide +kernel,rfl,by decide +kernel,by decide +kernel⟩
noncomputable def F27:Fn3:=F26.fn "set_by" ⟨2,false,zeB⟩
def d27:zaj (Gn T F26) false ["tiles","order"] (top 38)=some zhv:=by rfl
theorem s27:FnScope ["tiles","order"] ["tiles","order"] (zab (top 38)):=⟨rfl,rfl,rfl,by decide +kernel,rfl,by decide +kernel,by decide +kernel⟩
noncomputable def F28:Fn3:=F27.fn "row_by" ⟨2,false,zeC⟩
def d28:zaj (Gn T F27) false ["row","numbers"] (top 39)=some zhw:=by rfl
theorem s28:FnScope ["row","numbers"] ["row","numbers"] (zab (top 39)):=⟨rfl,rfl,rfl,by decide +kernel,rfl,by decide +kernel,by decide +kernel⟩
noncomputable def F29:Fn3:=F28.fn "floor_by" ⟨3,false,zbK⟩
def d29:zaj (Gn T F28) false ["tiles","floor","order","numbers","new","old"] (top 40)=some ze7:=by rfl
theorem s29:FnScope ["tiles","floor","order","numbers","new","old"] ["tiles","floor","order"] (zab (top 40)):=⟨rfl,rfl,rfl,by decide +kernel,rfl,by decide +kernel,by decide +kernel⟩
noncomputable def F30:Fn3:=F29.fn "row_replaced" ⟨3,false,zbv⟩
def d30:zaj (Gn T F29) false ["row","old","new"] (top 41)=some zcN:=by rfl
theorem s30:FnScope ["row","old","new"] ["row","old","new"] (zab (top 41)):=⟨rfl,rfl,rfl,by decide +kernel,rfl,by decide +kernel,by decide +kernel⟩
noncomputable def F31:Fn3:=F30.fn "replaced" ⟨4,false,zcX⟩
def d31:zaj (Gn T F30) false ["tiles","floor","old","new"] (top 42)=some ze4:=by rfl
theorem s31:FnScope ["tiles","floor","old","new"] ["tiles","floor","old","new"] (zab (top 42)):=⟨rfl,rfl,rfl,by decide +kernel,rfl,by decide +kernel,by decide +kernel⟩
noncomputable def F32:Fn3:=F31.fn "suits" ⟨2,false,zfJ⟩
def d32:zaj (Gn T F31) false ["wanted","colour"] (top 44)=some zjn:=by rfl
theorem s32:FnScope ["wanted","colour"] ["wanted","colour"] (zab (top 44)):=⟨rfl,rfl,rfl,by decide +kernel,rfl,by decide +kernel,by decide +kernel⟩
noncomputable def F33:Fn3:=F32.cls "Ways" [.bl false] ⟨4,false,zaZ⟩
def d33:zaj (Gn T (F32.at "Ways")) false ["self","tiles","floor","is_round"] (inC 0 (top 45))=some zcy:=by rfl
theorem s33:FnScope ["self","tiles","floor","is_round"] ["self","tiles","floor","is_round"] (zab (inC 0 (top 45))):=⟨rfl,rfl,rfl,by decide +kernel,rfl,by decide +kernel,by decide +kernel⟩
noncomputable def F34:Fn3:=F33.mt "first_seam" "Ways" ⟨1,false,zaX⟩
def d34:zaj (Gn T (F33.at "Ways")) false ["self"] (inC 1 (top 45))=some zb7:=by rfl
theorem s34:FnScope ["self"] ["self"] (zab (inC 1 (top 45))):=⟨rfl,rfl,rfl,by decide +kernel,rfl,by decide +kernel,by decide +kernel⟩
noncomputable def F35:Fn3:=F34.mt "ends_row" "Ways" ⟨2,false,zaY⟩
def d35:zaj (Gn T (F34.at "Ways")) false ["self","step"] (inC 2 (top 45))=some zcx:=by rfl
theorem s35:FnScope ["self","step"] ["self","step"] (zab (inC 2 (top 45))):=⟨rfl,rfl,rfl,by decide +kernel,rfl,by decide +kernel,by decide +kernel⟩
noncomputable def F36:Fn3:=F35.mt "colour_round" "Ways" ⟨4,false,zav⟩
def d36:zaj (Gn T (F35.at "Ways")) false ["self","step","seam","tile"] (inC 3 (top 45))=some za5:=by rfl
theorem s36:FnScope ["self","step","seam","tile"] ["self","step","seam","tile"] (zab (inC 3 (top 45))):=⟨rfl,rfl,rfl,by decide +kernel,rfl,by decide +kernel,by decide +kernel⟩
noncomputable def F37:Fn3:=F36.mt "seam_behind" "Ways" ⟨4,false,zbc⟩
def d37:zaj (Gn T (F36.at "Ways")) false ["self","step","seam","tile","is_last","in_last_row","east","south","around"] (inC 4 (top 45))=some zbX:=by rfl
theorem s37:FnScope ["self","step","seam","tile","is_last","in_last_row","east","south","around"] ["self","step","seam","tile"] (zab (inC 4 (top 45))):=⟨rfl,rfl,rfl,by decide +kernel,rfl,by decide +kernel,by decide +kernel⟩
noncomputable def F38:Fn3:=F37.mt "numbers_for" "Ways" ⟨2,false,zaN⟩
def d38:zaj (Gn T (F37.at "Ways")) false ["self","step","laid"] (inC 5 (top 45))=some zbe:=by rfl
theorem s38:FnScope ["self","step","laid"] ["self","step"] (zab (inC 5 (top 45))):=⟨rfl,rfl,rfl,by decide +kernel,rfl,by decide +kernel,by decide +kernel⟩
noncomputable def F39:Fn3:=F38.mt "fits_round" "Ways" ⟨4,false,zaW⟩
def d39:zaj (Gn T (F38.at "Ways")) false ["self","step","seam","tile"] (inC 6 (top 45))=some zbq:=by rfl
theorem s39:FnScope ["self","step","seam","tile"] ["self","step","seam","tile"] (zab (inC 6 (top 45))):=⟨rfl,rfl,rfl,by decide +kernel,rfl,by decide +kernel,by decide +kernel⟩
noncomputable def F40:Fn3:=F39.mt "fits" "Ways" ⟨4,false,zc9⟩
def d40:zaj (Gn T (F39.at "Ways")) false ["self","step","seam","tile"] (inC 7 (top 45))=some zeq:=by rfl
theorem s40:FnScope ["self","step","seam","tile"] ["self","step","seam","tile"] (zab (inC 7 (top 45))):=⟨rfl,rfl,rfl,by decide +kernel,rfl,by decide +kernel,by decide +kernel⟩
noncomputable def F41:Fn3:=F40.mt "choices" "Ways" ⟨3,true,zby⟩
def d41:zaj (Gn T (F40.at "Ways")) true ["self","step","seam","found","number","tile"] (inC 8 (top 45))=some zcQ:=by rfl
theorem s41:FnScope ["self","step","seam","found","number","tile"] ["self","step","seam"] (zab (inC 8 (top 45))):=⟨rfl,rfl,rfl,by decide +kernel,rfl,by decide +kernel,by decide +kernel⟩
noncomputable def F42:Fn3:=F41.mt "count_from" "Ways" ⟨3,false,zax⟩
def d42:∀r,zaj (Gn T ((F41.mt "count_from" "Ways" ⟨["self","step","seam"].length,false,r⟩).at "Ways")) false ["self","step","seam","key"] (inC 9 (top 45))=some (zak r):=by intro r;rfl
theorem s42:FnScope ["self","step","seam","key"] ["self","step","seam"] (zab (inC 9 (top 45))):=⟨rfl,rfl,rfl,by decide +kernel,rfl,by decide +kernel,by decide +kernel⟩
noncomputable def F43:Fn3:=F42.mt "count_all" "Ways" ⟨1,false,zaG⟩
def d43:zaj (Gn T (F42.at "Ways")) false ["self"] (inC 10 (top 45))=some zbC:=by rfl
theorem s43:FnScope ["self"] ["self"] (zab (inC 10 (top 45))):=⟨rfl,rfl,rfl,by decide +kernel,rfl,by decide +kernel,by decide +kernel⟩
noncomputable def F44:Fn3:=F43.mt "numbers_by" "Ways" ⟨2,true,zbp⟩
def d44:zaj (Gn T (F43.at "Ways")) true ["self","number","numbers","left","seam","step","choice","many"] (inC 11 (top 45))=some zb6:=by rfl
theorem s44:FnScope ["self","number","numbers","left","seam","step","choice","many"] ["self","number"] (zab (inC 11 (top 45))):=⟨rfl,rfl,rfl,by decide +kernel,rfl,by decide +kernel,by decide +kernel⟩
noncomputable def F45:Fn3:=F44.mt "whole_by" "Ways" ⟨2,false,zaV⟩
def d45:zaj (Gn T (F44.at "Ways")) false ["self","number"] (inC 12 (top 45))=some zbl:=by rfl
theorem s45:FnScope ["self","number"] ["self","number"] (zab (inC 12 (top 45))):=⟨rfl,rfl,rfl,by decide +kernel,rfl,by decide +kernel,by decide +kernel⟩
noncomputable def F46:Fn3:=F45.fn "count_fills" ⟨2,false,zaA⟩
def d46:zaj (Gn T F45) false ["tiles","floor"] (top 46)=some zdg:=by rfl
theorem s46:FnScope ["tiles","floor"] ["tiles","floor"] (zab (top 46)):=⟨rfl,rfl,rfl,by decide +kernel,rfl,by decide +kernel,by decide +kernel⟩
noncomputable def F47:Fn3:=F46.fn "is_fill" ⟨3,false,zcZ⟩
def d47:zaj (Gn T F46) false ["tiles","floor","whole"] (top 47)=some zeP:=by rfl
theorem s47:FnScope ["tiles","floor","whole"] ["tiles","floor","whole"] (zab (top 47)):=⟨rfl,rfl,rfl,by decide +kernel,rfl,by decide +kernel,by decide +kernel⟩
noncomputable def F48:Fn3:=F47.fn "fill" ⟨3,false,zfK⟩
def d48:zaj (Gn T F47) false ["tiles","floor","number"] (top 48)=some zkp:=by rfl
theorem s48:FnScope ["tiles","floor","number"] ["tiles","floor","number"] (zab (top 48)):=⟨rfl,rfl,rfl,by decide +kernel,rfl,by decide +kernel,by decide +kernel⟩
noncomputable def F49:Fn3:=F48.fn "counts_at" ⟨3,true,zbD⟩
def d49:zaj (Gn T F48) true ["tiles","floor","place","laid","counts","number","is_kept"] (top 50)=some zeo:=by rfl
theorem s49:FnScope ["tiles","floor","place","laid","counts","number","is_kept"] ["tiles","floor","place"] (zab (top 50)):=⟨rfl,rfl,rfl,by decide +kernel,rfl,by decide +kernel,by decide +kernel⟩
noncomputable def F50:Fn3:=F49.fn "bare_places" ⟨1,true,zce⟩
def d50:zaj (Gn T F49) true ["floor"] (top 51)=some zdh:=by rfl
theorem s50:FnScope ["floor"] ["floor"] (zab (top 51)):=⟨rfl,rfl,rfl,by decide +kernel,rfl,by decide +kernel,by decide +kernel⟩
noncomputable def F51:Fn3:=F50.fn "forced" ⟨2,true,zdO⟩
def d51:zaj (Gn T F50) true ["tiles","floor","many","first","found","place","number"] (top 52)=some zfw:=by rfl
theorem s51:FnScope ["tiles","floor","many","first","found","place","number"] ["tiles","floor"] (zab (top 52)):=⟨rfl,rfl,rfl,by decide +kernel,rfl,by decide +kernel,by decide +kernel⟩
noncomputable def F52:Fn3:=F51.fn "stretch" ⟨3,false,zcW⟩
def d52:zaj (Gn T F51) false ["things","first","many"] (top 54)=some zga:=by rfl
theorem s52:FnScope ["things","first","many"] ["things","first","many"] (zab (top 54)):=⟨rfl,rfl,rfl,by decide +kernel,rfl,by decide +kernel,by decide +kernel⟩
noncomputable def F53:Fn3:=F52.fn "part" ⟨5,false,zjT⟩
def d53:zaj (Gn T F52) false ["floor","top","left","rows","columns"] (top 55)=some zmY:=by rfl
theorem s53:FnScope ["floor","top","left","rows","columns"] ["floor","top","left","rows","columns"] (zab (top 55)):=⟨rfl,rfl,rfl,by decide +kernel,rfl,by decide +kernel,by decide +kernel⟩
noncomputable def F54:Fn3:=F53.fn "meetings" ⟨2,true,zdN⟩
def d54:zaj (Gn T F53) true ["tiles","floor","found","place"] (top 57)=some ze5:=by rfl
theorem s54:FnScope ["tiles","floor","found","place"] ["tiles","floor"] (zab (top 57)):=⟨rfl,rfl,rfl,by decide +kernel,rfl,by decide +kernel,by decide +kernel⟩
noncomputable def F55:Fn3:=F54.fn "seams" ⟨2,false,zhe⟩
def d55:zaj (Gn T F54) false ["tiles","floor","met","alike"] (top 58)=some zjo:=by rfl
theorem s55:FnScope ["tiles","floor","met","alike"] ["tiles","floor"] (zab (top 58)):=⟨rfl,rfl,rfl,by decide +kernel,rfl,by decide +kernel,by decide +kernel⟩
noncomputable def F56:Fn3:=F55.fn "is_window" ⟨3,false,zb2⟩
def d56:zaj (Gn T F55) false ["floor","piece","place","size","seen"] (top 59)=some zde:=by rfl
theorem s56:FnScope ["floor","piece","place","size","seen"] ["floor","piece","place"] (zab (top 59)):=⟨rfl,rfl,rfl,by decide +kernel,rfl,by decide +kernel,by decide +kernel⟩
noncomputable def F57:Fn3:=F56.fn "windows" ⟨2,true,zeA⟩
def d57:zaj (Gn T F56) true ["floor","piece"] (top 60)=some zf8:=by rfl
theorem s57:FnScope ["floor","piece"] ["floor","piece"] (zab (top 60)):=⟨rfl,rfl,rfl,by decide +kernel,rfl,by decide +kernel,by decide +kernel⟩
noncomputable def F58:Fn3:=F57.fn "_law_cell" ⟨2,false,zb3⟩
def d58:zaj (Gn T F57) false ["_law_script","_law_k"] (top 62)=some zcw:=by rfl
theorem s58:FnScope ["_law_script","_law_k"] ["_law_script","_law_k"] (zab (top 62)):=⟨rfl,rfl,rfl,by decide +kernel,rfl,by decide +kernel,by decide +kernel⟩
noncomputable def F59:Fn3:=F58.fn "_law_pick" ⟨3,false,zas⟩
def d59:zaj (Gn T F58) false ["_law_script","_law_k","_law_many","_law_drawn"] (top 63)=some zep:=by rfl
theorem s59:FnScope ["_law_script","_law_k","_law_many","_law_drawn"] ["_law_script","_law_k","_law_many"] (zab (top 63)):=⟨rfl,rfl,rfl,by decide +kernel,rfl,by decide +kernel,by decide +kernel⟩
noncomputable def F60:Fn3:=F59.fn "_law_tiles" ⟨3,false,zcB⟩
def d60:zaj (Gn T F59) false ["_law_script","_law_at","_law_most","_law_colours","_law_made","_law_k","_law_tile"] (top 64)=some zdE:=by rfl
theorem s60:FnScope ["_law_script","_law_at","_law_most","_law_colours","_law_made","_law_k","_law_tile"] ["_law_script","_law_at","_law_most"] (zab (top 64)):=⟨rfl,rfl,rfl,by decide +kernel,rfl,by decide +kernel,by decide +kernel⟩
noncomputable def F61:Fn3:=F60.fn "_law_floor" ⟨6,false,zcD⟩
def d61:zaj (Gn T F60) false ["_law_script","_law_at","_law_tiles_here","_law_rows","_law_columns","_law_many","_law_made","_law_row","_law_line","_law_column","_law_here"] (top 65)=some zdG:=by rfl
theorem s61:FnScope ["_law_script","_law_at","_law_tiles_here","_law_rows","_law_columns","_law_many","_law_made","_law_row","_law_line","_law_column","_law_here"] ["_law_script","_law_at","_law_tiles_here","_law_rows","_law_columns","_law_many"] (zab (top 65)):=⟨rfl,rfl,rfl,by decide +kernel,rfl,by decide +kernel,by decide +kernel⟩
noncomputable def F62:Fn3:=F61.fn "_law_sides" ⟨2,false,zcC⟩
def d62:zaj (Gn T F61) false ["_law_script","_law_at"] (top 66)=some zdF:=by rfl
theorem s62:FnScope ["_law_script","_law_at"] ["_law_script","_law_at"] (zab (top 66)):=⟨rfl,rfl,rfl,by decide +kernel,rfl,by decide +kernel,by decide +kernel⟩
def d63:zaj (Gn T F62) false ["_law_script","_law_tiles_here","_law_rows","_law_columns","_law_floor_here","_law_left","_law_order","_law_new","_law_made","_law_many","_law_place","_law_told","_law_whole","_law_other","_law_swapped","_law_contrary","_law_again"] (top 67)=some zro:=by rfl
theorem s63:FnScope ["_law_script","_law_tiles_here","_law_rows","_law_columns","_law_floor_here","_law_left","_law_order","_law_new","_law_made","_law_many","_law_place","_law_told","_law_whole","_law_other","_law_swapped","_law_contrary","_law_again"] ["_law_script"] (zab (top 67)):=⟨rfl,rfl,rfl,by decide +kernel,rfl,by decide +kernel,by decide +kernel⟩
def gm{K:PySem.W.Frag}{x:Str}{st:Stmt}{f:Addr}{oc kV dc pm cd ct:Value}{od an:Option Addr}{sl:Array (Option Value)}(a:PySem.W.nsIn K mainGlobals x=some (some (.ref f)))(l:K.lookup f=some ⟨oc,od,.func (PySem.W.fnOf x x (zbZ st) (zbF st) (zab st) .none kV dc pm an cd ct),sl⟩)(c:PySem.W.codeIn K cd x=true)(k:PySem.W.keepIn K (.ref f)=true)(i:PySem.W.isFn K (.ref f)=true):GFn K x st:=⟨f,a,oc,od,kV,dc,pm,an,cd,ct,sl,l,c,k,i⟩
def mm{K:PySem.W.Frag}{x q:Str}{st:Stmt}{f:Addr}{oc kV dc pm cd ct:Value}{od an:Option Addr}{sl:Array (Option Value)}{C:Addr}(a:PySem.W.findIn K (.ref C) x=some (some (.ref f)))(l:K.lookup f=some ⟨oc,od,.func (PySem.W.fnOf x q (zbZ st) (zbF st) (zab st) .none kV dc pm an cd ct),sl⟩)(c:PySem.W.codeIn K cd q=true)(k:PySem.W.keepIn K (.ref f)=true)(i:PySem.W.isFn K (.ref f)=true):MFn K C x q st:=⟨f,a,oc,od,kV,dc,pm,an,cd,ct,sl,l,c,k,i⟩
def all_mk{l:PySem.W.OpenLaw}{w:PySem.World}{K:PySem.W.Frag}{h:Heap}{mg:Z6}{fa f63:Addr}(X:K.In h)(G:h.Ns mainGlobals mg)(hfa:mg "law" = some (.ref fa))
  {od63 an63:Option Addr} {sl63:Array (Option Value)} {oc63 kV63 dc63 pm63 cd63 ct63:Value}
  {yWays:Addr}
  (nyWays:PySem.W.nsIn K mainGlobals "Ways" = some (some (.ref yWays))) (pgWays:PySem.W.plainGet K yWays Str.empty=true) (hdWays:PySem.W.hasDictIn K yWays=true) (poWays:PySem.W.plainOver K yWays=true) (saWays:PySem.W.findIn K (.ref yWays) "__setattr__" = some (some (.builtin "object.__setattr__"))) (mkWays:PySem.W.makesIn K yWays=true) (kpWays:PySem.W.keepIn K (.ref yWays)=true)
  (naWaystiles:PySem.W.findIn K (.ref yWays) "tiles" = some none)
  (naWaysground:PySem.W.findIn K (.ref yWays) "ground" = some none)
  (naWayssize:PySem.W.findIn K (.ref yWays) "size" = some none)
  (naWaysis_round:PySem.W.findIn K (.ref yWays) "is_round" = some none)
  (naWaysknown:PySem.W.findIn K (.ref yWays) "known" = some none)
  {f33:Addr} {od33 an33:Option Addr} {sl33:Array (Option Value)} {oc33 kV33 dc33 pm33 cd33 ct33:Value}
  {dt33:Addr} {dl33:Value} {dm33:Option Addr} {dn33:Nat} {dq33:Array (Option Value)}
  (a33:PySem.W.findIn K (.ref yWays) "__init__" = some (some (.ref f33))) (i33:PySem.W.isFn K (.ref f33)=true)
  (l33:K.lookup f33=some ⟨oc33,od33,.func (PySem.W.fnOf "__init__" "Ways.__init__" (zbZ (inC 0 (top 45))) (zbF (inC 0 (top 45))) (zab (inC 0 (top 45))) (.ref dt33) kV33 dc33 pm33 an33 cd33 ct33),sl33⟩) (c33:PySem.W.codeIn K cd33 "Ways.__init__" = true) (k33:PySem.W.keepIn K (.ref f33)=true)
  (dk33:K.lookup dt33=some ⟨dl33,dm33,.seq #[Value.bool false] dn33,dq33⟩)
  (a63:PySem.W.nsIn K mainGlobals "law" = some (some (.ref f63)))
  (l63:K.lookup f63=some ⟨oc63,od63,.func (PySem.W.fnOf "law" "law" (zbZ (top 67)) (zbF (top 67)) (zab (top 67)) .none kV63 dc63 pm63 an63 cd63 ct63),sl63⟩) (c63:PySem.W.codeIn K cd63 "law" = true) (k63:PySem.W.keepIn K (.ref f63)=true)
  (z1:PySem.W.nsIn K mainGlobals "isinstance" = some none)
  (z2:PySem.W.nsIn K mainGlobals "int" = some none)
  (z3:PySem.W.nsIn K mainGlobals "bool" = some none)
  (z4:PySem.W.nsIn K mainGlobals "tuple" = some none)
  (z5:PySem.W.nsIn K mainGlobals "list" = some none)
  (z6:PySem.W.nsIn K mainGlobals "len" = some none)
  (z7:PySem.W.nsIn K mainGlobals "range" = some none)
  (z8:PySem.W.nsIn K mainGlobals "all" = some none)
  (z9:PySem.W.nsIn K mainGlobals "sum" = some none)
  (z10:PySem.W.nsIn K mainGlobals "enumerate" = some none)
  (z11:PySem.W.nsIn K mainGlobals "max" = some none)
  (z12:PySem.W.nsIn K mainGlobals "zip" = some none)
  (z13:PySem.W.nsIn K mainGlobals "set" = some none)
  (z14:PySem.W.nsIn K mainGlobals "ValueError" = some none)
  {gt1:Tok} (gl1:PySem.W.nsIn K mainGlobals "NORTH" = some (some (.int 0 gt1)))
  {gt2:Tok} (gl2:PySem.W.nsIn K mainGlobals "EAST" = some (some (.int 1 gt2)))
  {gt3:Tok} (gl3:PySem.W.nsIn K mainGlobals "SOUTH" = some (some (.int 2 gt3)))
  {gt4:Tok} (gl4:PySem.W.nsIn K mainGlobals "WEST" = some (some (.int 3 gt4)))
  {e0 e1 e2 e3:Addr}
  (n0:PySem.W.nsIn K mainGlobals "FloorError" = some (some (.ref e0))) (x0:PySem.W.excIn K e0 bmV "ValueError.__new__" = true)
  (n1:PySem.W.nsIn K mainGlobals "NoPlace" = some (some (.ref e1))) (x1:PySem.W.excIn K e1 bmV "ValueError.__new__" = true)
  (n2:PySem.W.nsIn K mainGlobals "NoTile" = some (some (.ref e2))) (x2:PySem.W.excIn K e2 bmV "ValueError.__new__" = true)
  (n3:PySem.W.nsIn K mainGlobals "NoFill" = some (some (.ref e3))) (x3:PySem.W.excIn K e3 bmV "ValueError.__new__" = true)
  {el1:Value} {ed1:Option Addr} {ec1:ClassData} {es1:Array (Option Value)} (lk1:K.lookup e1=some ⟨el1,ed1,.cls ec1,es1⟩) (mr1:ec1.mro.contains (.ref e0)=true)
  {el2:Value} {ed2:Option Addr} {ec2:ClassData} {es2:Array (Option Value)} (lk2:K.lookup e2=some ⟨el2,ed2,.cls ec2,es2⟩) (mr2:ec2.mro.contains (.ref e0)=true)
  {el3:Value} {ed3:Option Addr} {ec3:ClassData} {es3:Array (Option Value)} (lk3:K.lookup e3=some ⟨el3,ed3,.cls ec3,es3⟩) (mr3:ec3.mro.contains (.ref e0)=true)
  (p1:GFn K "is_whole" (top 11)) (p2:GFn K "is_tuple_of" (top 12)) (p3:GFn K "has_number" (top 13)) (p4:GFn K "may_lie" (top 14)) (p5:GFn K "size_of" (top 15)) (p6:GFn K "places_of" (top 16)) (p7:GFn K "is_row_like" (top 17)) (p8:GFn K "is_like" (top 18)) (p9:GFn K "in_rows" (top 19)) (p10:GFn K "number_at" (top 20)) (p11:GFn K "laid_places" (top 21)) (p12:GFn K "has_tiles_of" (top 22)) (p13:GFn K "has_place" (top 23)) (p14:GFn K "refuse_outside" (top 24)) (p15:GFn K "tile_at" (top 25)) (p16:GFn K "with_number" (top 26)) (p17:GFn K "with_tile" (top 27)) (p18:GFn K "edge_at" (top 28)) (p19:GFn K "colours_east" (top 29)) (p20:GFn K "colours_south" (top 30)) (p21:GFn K "do_clash" (top 31)) (p22:GFn K "clashes" (top 32)) (p23:GFn K "is_right" (top 33)) (p24:GFn K "exchanged" (top 35)) (p25:GFn K "is_order" (top 36)) (p26:GFn K "refuse_no_order" (top 37)) (p27:GFn K "set_by" (top 38)) (p28:GFn K "row_by" (top 39)) (p29:GFn K "floor_by" (top 40)) (p30:GFn K "row_replaced" (top 41)) (p31:GFn K "replaced" (top 42)) (p32:GFn K "suits" (top 44)) (p34:MFn K yWays "first_seam" "Ways.first_seam" (inC 1 (top 45))) (p35:MFn K yWays "ends_row" "Ways.ends_row" (inC 2 (top 45))) (p36:MFn K yWays "colour_round" "Ways.colour_round" (inC 3 (top 45))) (p37:MFn K yWays "seam_behind" "Ways.seam_behind" (inC 4 (top 45))) (p38:MFn K yWays "numbers_for" "Ways.numbers_for" (inC 5 (top 45))) (p39:MFn K yWays "fits_round" "Ways.fits_round" (inC 6 (top 45))) (p40:MFn K yWays "fits" "Ways.fits" (inC 7 (top 45))) (p41:MFn K yWays "choices" "Ways.choices" (inC 8 (top 45))) (p42:MFn K yWays "count_from" "Ways.count_from" (inC 9 (top 45))) (p43:MFn K yWays "count_all" "Ways.count_all" (inC 10 (top 45))) (p44:MFn K yWays "numbers_by" "Ways.numbers_by" (inC 11 (top 45))) (p45:MFn K yWays "whole_by" "Ways.whole_by" (inC 12 (top 45))) (p46:GFn K "count_fills" (top 46)) (p47:GFn K "is_fill" (top 47)) (p48:GFn K "fill" (top 48)) (p49:GFn K "counts_at" (top 50)) (p50:GFn K "bare_places" (top 51)) (p51:GFn K "forced" (top 52)) (p52:GFn K "stretch" (top 54)) (p53:GFn K "part" (top 55)) (p54:GFn K "meetings" (top 57)) (p55:GFn K "seams" (top 58)) (p56:GFn K "is_window" (top 59)) (p57:GFn K "windows" (top 60)) (p58:GFn K "_law_cell" (top 62)) (p59:GFn K "_law_pick" (top 63)) (p60:GFn K "_law_tiles" (top 64)) (p61:GFn K "_law_floor" (top 65)) (p62:GFn K "_law_sides" (top 66))
  : ∃fd:FuncData,(∀(s:Shared) (v:Value),BindsTo s fd ⟨[v],[]⟩ [("_law_script",v)])/\∀base:Heap,K.In base->base.Ns mainGlobals mg->FnOk l.prog w K mg base (CXE l.prog w) 103 fa fd ["_law_script"] (S2.znL K):=by
 have e:=hfa.symm.trans (ybp X G a63);cases e;have CLWays:Cls K yWays:=⟨pgWays,hdWays,poWays,saWays⟩;have U33:FunD K "__init__" "Ways.__init__" (inC 0 (top 45)) f33 _ #[Value.bool false]:=⟨⟨_,_,_,_,dn33,_,_,_,_,_,_,_,rfl,l33,c33,dk33,rfl⟩⟩;have b33:zcA K (PySem.W.fnOf "__init__" "Ways.__init__" (zbZ (inC 0 (top 45))) (zbF (inC 0 (top 45))) (zab (inC 0 (top 45))) (.ref dt33) kV33 dc33 pm33 an33 cd33 ct33) ["self","tiles","floor","is_round"] []:=fun s us KX hl=>bb4 (p:=fun us=>BindsTo s _ ⟨us,[]⟩ ((["self","tiles","floor","is_round"]:List Str).zip (us++[]))) (fun _ _ _ _=>PySem.W.binds_K KX rfl dk33 rfl rfl rfl) us (by simpa using hl)
 have bd33:zcA K (PySem.W.fnOf "__init__" "Ways.__init__" (zbZ (inC 0 (top 45))) (zbF (inC 0 (top 45))) (zab (inC 0 (top 45))) (.ref dt33) kV33 dc33 pm33 an33 cd33 ct33) ["self","tiles","floor","is_round"] [Value.bool false]:=fun s us KX hl=>bb3 (p:=fun us=>BindsTo s _ ⟨us,[]⟩ ((["self","tiles","floor","is_round"]:List Str).zip (us++[Value.bool false]))) (fun _ _ _=>PySem.W.binds_K KX rfl dk33 rfl rfl rfl) us (by simpa using hl)
 have U63:=zpE (st:=(top 67)) l63 c63 k63;refine ⟨PySem.W.fnOf "law" "law" (zbZ (top 67)) (zbF (top 67)) (zab (top 67)) .none kV63 dc63 pm63 an63 cd63 ct63,fun s v=>.of_eq rfl,fun base _ _=>?_⟩
 let cl:Cf:=⟨fun x=>(([("FloorError",e0),("NoPlace",e1),("NoTile",e2),("NoFill",e3),("Ways",yWays)]:List (Str×Addr)).lookup x).getD 0,K,l.prog,w⟩
 have g0:GOk cl (Gn T F0) l.prog w K mg base 0:=zAs (cl:=cl) (zay ⟨.int 0,_,ybp X G gl1,⟨_,rfl⟩,fun _=>.int _⟩ (zay ⟨.int 1,_,ybp X G gl2,⟨_,rfl⟩,fun _=>.int _⟩ (zay ⟨.int 2,_,ybp X G gl3,⟨_,rfl⟩,fun _=>.int _⟩ (zay ⟨.int 3,_,ybp X G gl4,⟨_,rfl⟩,fun _=>.int _⟩ zgN)))) (zay (yaP X G z1) (zay (yaP X G z2) (zay (yaP X G z3) (zay (yaP X G z4) (zay (yaP X G z5) (zay (yaP X G z6) (zay (yaP X G z7) (zay (yaP X G z8) (zay (yaP X G z9) (zay (yaP X G z10) (zay (yaP X G z11) (zay (yaP X G z12) (zay (yaP X G z13) (zay (yaP X G z14) zgN)))))))))))))) (zay ⟨ybp X G n0,x0⟩ (zay ⟨ybp X G n1,x1⟩ (zay ⟨ybp X G n2,x2⟩ (zay ⟨ybp X G n3,x3⟩ zgN)))) (zay ⟨⟨_,_,x1⟩,_,_,_,_,lk1,mr1⟩ (zay ⟨⟨_,_,x2⟩,_,_,_,_,lk2,mr2⟩ (zay ⟨⟨_,_,x3⟩,_,_,_,_,lk3,mr3⟩ zgN))) zgN (zay ⟨CLWays,naWaystiles⟩ (zay ⟨CLWays,naWaysground⟩ (zay ⟨CLWays,naWayssize⟩ (zay ⟨CLWays,naWaysis_round⟩ (zay ⟨CLWays,naWaysknown⟩ zgN)))));have g1:GOk cl (Gn T F1) l.prog w K mg base 1:=g0.addG X G p1 s1 rfl rfl rfl (fun _ _ _ _ _ _=>bb1 fun _=>rfl) d1;have g2:GOk cl (Gn T F2) l.prog w K mg base 2:=g1.addG X G p2 s2 rfl rfl rfl (fun _ _ _ _ _ _=>bb3 fun _ _ _=>rfl) d2;have g3:GOk cl (Gn T F3) l.prog w K mg base 3:=g2.addG X G p3 s3 rfl rfl rfl (fun _ _ _ _ _ _=>bb2 fun _ _=>rfl) d3;have g4:GOk cl (Gn T F4) l.prog w K mg base 4:=g3.addG X G p4 s4 rfl rfl rfl (fun _ _ _ _ _ _=>bb2 fun _ _=>rfl) d4;have g5:GOk cl (Gn T F5) l.prog w K mg base 5:=g4.addG X G p5 s5 rfl rfl rfl (fun _ _ _ _ _ _=>bb1 fun _=>rfl) d5;have g6:GOk cl (Gn T F6) l.prog w K mg base 6:=g5.addG X G p6 s6 rfl rfl rfl (fun _ _ _ _ _ _=>bb1 fun _=>rfl) d6;have g7:GOk cl (Gn T F7) l.prog w K mg base 7:=g6.addG X G p7 s7 rfl rfl rfl (fun _ _ _ _ _ _=>bb2 fun _ _=>rfl) d7;have g8:GOk cl (Gn T F8) l.prog w K mg base 8:=g7.addG X G p8 s8 rfl rfl rfl (fun _ _ _ _ _ _=>bb2 fun _ _=>rfl) d8;have g9:GOk cl (Gn T F9) l.prog w K mg base 9:=g8.addG X G p9 s9 rfl rfl rfl (fun _ _ _ _ _ _=>bb2 fun _ _=>rfl) d9;have g10:GOk cl (Gn T F10) l.prog w K mg base 10:=g9.addG X G p10 s10 rfl rfl rfl (fun _ _ _ _ _ _=>bb2 fun _ _=>rfl) d10;have g11:GOk cl (Gn T F11) l.prog w K mg base 11:=g10.addG X G p11 s11 rfl rfl rfl (fun _ _ _ _ _ _=>bb1 fun _=>rfl) d11;have g12:GOk cl (Gn T F12) l.prog w K mg base 12:=g11.addG X G p12 s12 rfl rfl rfl (fun _ _ _ _ _ _=>bb2 fun _ _=>rfl) d12;have g13:GOk cl (Gn T F13) l.prog w K mg base 13:=g12.addG X G p13 s13 rfl rfl rfl (fun _ _ _ _ _ _=>bb2 fun _ _=>rfl) d13;have g14:GOk cl (Gn T F14) l.prog w K mg base 14:=g13.addG X G p14 s14 rfl rfl rfl (fun _ _ _ _ _ _=>bb2 fun _ _=>rfl) d14;have g15:GOk cl (Gn T F15) l.prog w K mg base 15:=g14.addG X G p15 s15 rfl rfl rfl (fun _ _ _ _ _ _=>bb2 fun _ _=>rfl) d15;have g16:GOk cl (Gn T F16) l.prog w K mg base 16:=g15.addG X G p16 s16 rfl rfl rfl (fun _ _ _ _ _ _=>bb3 fun _ _ _=>rfl) d16;have g17:GOk cl (Gn T F17) l.prog w K mg base 17:=g16.addG X G p17 s17 rfl rfl rfl (fun _ _ _ _ _ _=>bb4 fun _ _ _ _=>rfl) d17;have g18:GOk cl (Gn T F18) l.prog w K mg base 18:=g17.addG X G p18 s18 rfl rfl rfl (fun _ _ _ _ _ _=>bb4 fun _ _ _ _=>rfl) d18;have g19:GOk cl (Gn T F19) l.prog w K mg base 19:=g18.addG X G p19 s19 rfl rfl rfl (fun _ _ _ _ _ _=>bb3 fun _ _ _=>rfl) d19;have g20:GOk cl (Gn T F20) l.prog w K mg base 20:=g19.addG X G p20 s20 rfl rfl rfl (fun _ _ _ _ _ _=>bb3 fun _ _ _=>rfl) d20;have g21:GOk cl (Gn T F21) l.prog w K mg base 21:=g20.addG X G p21 s21 rfl rfl rfl (fun _ _ _ _ _ _=>bb1 fun _=>rfl) d21;have g22:GOk cl (Gn T F22) l.prog w K mg base 22:=g21.addG X G p22 s22 rfl rfl rfl (fun _ _ _ _ _ _=>bb2 fun _ _=>rfl) d22;have g23:GOk cl (Gn T F23) l.prog w K mg base 23:=g22.addG X G p23 s23 rfl rfl rfl (fun _ _ _ _ _ _=>bb2 fun _ _=>rfl) d23;have g24:GOk cl (Gn T F24) l.prog w K mg base 24:=g23.addG X G p24 s24 rfl rfl rfl (fun _ _ _ _ _ _=>bb4 fun _ _ _ _=>rfl) d24;have g25:GOk cl (Gn T F25) l.prog w K mg base 25:=g24.addG X G p25 s25 rfl rfl rfl (fun _ _ _ _ _ _=>bb2 fun _ _=>rfl) d25;have g26:GOk cl (Gn T F26) l.prog w K mg base 26:=g25.addG X G p26 s26 rfl rfl rfl (fun _ _ _ _ _ _=>bb2 fun _ _=>rfl) d26;have g27:GOk cl (Gn T F27) l.prog w K mg base 27:=g26.addG X G p27 s27 rfl rfl rfl (fun _ _ _ _ _ _=>bb2 fun _ _=>rfl) d27;have g28:GOk cl (Gn T F28) l.prog w K mg base 28:=g27.addG X G p28 s28 rfl rfl rfl (fun _ _ _ _ _ _=>bb2 fun _ _=>rfl) d28;have g29:GOk cl (Gn T F29) l.prog w K mg base 29:=g28.addG X G p29 s29 rfl rfl rfl (fun _ _ _ _ _ _=>bb3 fun _ _ _=>rfl) d29;have g30:GOk cl (Gn T F30) l.prog w K mg base 30:=g29.addG X G p30 s30 rfl rfl rfl (fun _ _ _ _ _ _=>bb3 fun _ _ _=>rfl) d30;have g31:GOk cl (Gn T F31) l.prog w K mg base 31:=g30.addG X G p31 s31 rfl rfl rfl (fun _ _ _ _ _ _=>bb4 fun _ _ _ _=>rfl) d31;have g32:GOk cl (Gn T F32) l.prog w K mg base 32:=g31.addG X G p32 s32 rfl rfl rfl (fun _ _ _ _ _ _=>bb2 fun _ _=>rfl) d32;have G33:=zua (cl:=cl) (wo:=w) (P:=l.prog) U33 s33 (g32.at "Ways") rfl rfl rfl d33;have g33:GOk cl (Gn T F33) l.prog w K mg base 34:=GOk.addK (k':=33) (fi:=⟨4,false,zaZ⟩) (dvs:=[.bl false]) (g32.up (by decide)) (by decide) (ybp X G nyWays) ⟨mkWays,a33,i33,kpWays⟩ b33 bd33 (.cons rfl .nil) (fun _=>(.cons (.bl _) .nil)) G33;have g34:GOk cl (Gn T F34) l.prog w K mg base 35:=g33.addMG (c:="Ways") CLWays p34 s34 rfl rfl rfl (fun _ _ _ _ _ _=>bb1 fun _=>rfl) d34;have g35:GOk cl (Gn T F35) l.prog w K mg base 36:=g34.addMG (c:="Ways") CLWays p35 s35 rfl rfl rfl (fun _ _ _ _ _ _=>bb2 fun _ _=>rfl) d35;have g36:GOk cl (Gn T F36) l.prog w K mg base 37:=g35.addMG (c:="Ways") CLWays p36 s36 rfl rfl rfl (fun _ _ _ _ _ _=>bb4 fun _ _ _ _=>rfl) d36;have g37:GOk cl (Gn T F37) l.prog w K mg base 38:=g36.addMG (c:="Ways") CLWays p37 s37 rfl rfl rfl (fun _ _ _ _ _ _=>bb4 fun _ _ _ _=>rfl) d37;have g38:GOk cl (Gn T F38) l.prog w K mg base 39:=g37.addMG (c:="Ways") CLWays p38 s38 rfl rfl rfl (fun _ _ _ _ _ _=>bb2 fun _ _=>rfl) d38;have g39:GOk cl (Gn T F39) l.prog w K mg base 40:=g38.addMG (c:="Ways") CLWays p39 s39 rfl rfl rfl (fun _ _ _ _ _ _=>bb4 fun _ _ _ _=>rfl) d39;have g40:GOk cl (Gn T F40) l.prog w K mg base 41:=g39.addMG (c:="Ways") CLWays p40 s40 rfl rfl rfl (fun _ _ _ _ _ _=>bb4 fun _ _ _ _=>rfl) d40;have g41:GOk cl (Gn T F41) l.prog w K mg base 42:=g40.addMG (c:="Ways") CLWays p41 s41 rfl rfl rfl (fun _ _ _ _ _ _=>bb3 fun _ _ _=>rfl) d41;have g42:GOk cl (Gn T F42) l.prog w K mg base 82:=g41.addRG (c:="Ways") CLWays p42 s42 rfl rfl rfl (fun _ _ _ _ _ _=>bb3 fun _ _ _=>rfl) d42 40;have g43:GOk cl (Gn T F43) l.prog w K mg base 83:=g42.addMG (c:="Ways") CLWays p43 s43 rfl rfl rfl (fun _ _ _ _ _ _=>bb1 fun _=>rfl) d43;have g44:GOk cl (Gn T F44) l.prog w K mg base 84:=g43.addMG (c:="Ways") CLWays p44 s44 rfl rfl rfl (fun _ _ _ _ _ _=>bb2 fun _ _=>rfl) d44;have g45:GOk cl (Gn T F45) l.prog w K mg base 85:=g44.addMG (c:="Ways") CLWays p45 s45 rfl rfl rfl (fun _ _ _ _ _ _=>bb2 fun _ _=>rfl) d45;have g46:GOk cl (Gn T F46) l.prog w K mg base 86:=g45.addG X G p46 s46 rfl rfl rfl (fun _ _ _ _ _ _=>bb2 fun _ _=>rfl) d46;have g47:GOk cl (Gn T F47) l.prog w K mg base 87:=g46.addG X G p47 s47 rfl rfl rfl (fun _ _ _ _ _ _=>bb3 fun _ _ _=>rfl) d47;have g48:GOk cl (Gn T F48) l.prog w K mg base 88:=g47.addG X G p48 s48 rfl rfl rfl (fun _ _ _ _ _ _=>bb3 fun _ _ _=>rfl) d48;have g49:GOk cl (Gn T F49) l.prog w K mg base 89:=g48.addG X G p49 s49 rfl rfl rfl (fun _ _ _ _ _ _=>bb3 fun _ _ _=>rfl) d49;have g50:GOk cl (Gn T F50) l.prog w K mg base 90:=g49.addG X G p50 s50 rfl rfl rfl (fun _ _ _ _ _ _=>bb1 fun _=>rfl) d50;have g51:GOk cl (Gn T F51) l.prog w K mg base 91:=g50.addG X G p51 s51 rfl rfl rfl (fun _ _ _ _ _ _=>bb2 fun _ _=>rfl) d51;have g52:GOk cl (Gn T F52) l.prog w K mg base 92:=g51.addG X G p52 s52 rfl rfl rfl (fun _ _ _ _ _ _=>bb3 fun _ _ _=>rfl) d52;have g53:GOk cl (Gn T F53) l.prog w K mg base 93:=g52.addG X G p53 s53 rfl rfl rfl (fun _ _ _ _ _ _=>bb5 fun _ _ _ _ _=>rfl) d53;have g54:GOk cl (Gn T F54) l.prog w K mg base 94:=g53.addG X G p54 s54 rfl rfl rfl (fun _ _ _ _ _ _=>bb2 fun _ _=>rfl) d54;have g55:GOk cl (Gn T F55) l.prog w K mg base 95:=g54.addG X G p55 s55 rfl rfl rfl (fun _ _ _ _ _ _=>bb2 fun _ _=>rfl) d55;have g56:GOk cl (Gn T F56) l.prog w K mg base 96:=g55.addG X G p56 s56 rfl rfl rfl (fun _ _ _ _ _ _=>bb3 fun _ _ _=>rfl) d56;have g57:GOk cl (Gn T F57) l.prog w K mg base 97:=g56.addG X G p57 s57 rfl rfl rfl (fun _ _ _ _ _ _=>bb2 fun _ _=>rfl) d57;have g58:GOk cl (Gn T F58) l.prog w K mg base 98:=g57.addG X G p58 s58 rfl rfl rfl (fun _ _ _ _ _ _=>bb2 fun _ _=>rfl) d58;have g59:GOk cl (Gn T F59) l.prog w K mg base 99:=g58.addG X G p59 s59 rfl rfl rfl (fun _ _ _ _ _ _=>bb3 fun _ _ _=>rfl) d59;have g60:GOk cl (Gn T F60) l.prog w K mg base 100:=g59.addG X G p60 s60 rfl rfl rfl (fun _ _ _ _ _ _=>bb3 fun _ _ _=>rfl) d60;have g61:GOk cl (Gn T F61) l.prog w K mg base 101:=g60.addG X G p61 s61 rfl rfl rfl (fun _ _ _ _ _ _=>bb6 fun _ _ _ _ _ _=>rfl) d61;have g62:GOk cl (Gn T F62) l.prog w K mg base 102:=g61.addG X G p62 s62 rfl rfl rfl (fun _ _ _ _ _ _=>bb2 fun _ _=>rfl) d62;have G63:=zoL (cl:=cl) (wo:=w) (P:=l.prog) U63 s63 g62 rfl rfl rfl d63;exact G63.imp (ztP (cl:=cl) zov)
def walk{l:PySem.W.OpenLaw}{q:Program}{loose:List Str}{XP:(Str->Option Value)->Heap->Prop}{YP:PySem.World->Heap->Prop}{d:DefRec}{K:Params->PySem.W.Frag}(hn:l.most=some 63)(hdf:d.params.defaults=[])
  (hY:∀(w:PySem.World) (h:Heap),YP w h->(K w.params).In h)
  (F:∀(w:PySem.World) (mg:Z6) (fa:Addr) (h:Heap),(K w.params).In h->h.Ns mainGlobals mg->mg d.name=some (.ref fa) →
   ∃fd:FuncData,(∀(s:Shared) (u:Value),BindsTo s fd ⟨[u],[]⟩ [("_law_script",u)])/\∀base:Heap,(K w.params).In base->base.Ns mainGlobals mg->FnOk l.prog w (K w.params) mg base (CXE l.prog w) 103 fa fd ["_law_script"] (S2.znL (K w.params))) :
  PySem.W.WalkO q loose XP YP l.row.toRowW d [] (fun f vs=>PySem.call f vs) :=
 L2.zpS (n:=63) (k:=103) (x:="_law_script") (CX:=fun w=>CXE l.prog w) (sp:=fun w=>S2.znL (K w.params)) hn (by decide) hdf ⟨rfl,by decide,by decide⟩ hY F (fun _ _ a ns hl hO hS=>⟨a,ns,rfl,hl,hO,hS,fun _=>rfl⟩) (by rintro _ _ _ _ _ ⟨_,_,_,_,_,_,_,_,_,_,_,_,_,_,z⟩;exact z)
end M97
namespace PySem.W.Fast
noncomputable def tw14253542333676118734:=0
noncomputable def tw8384348586005927834:=0
noncomputable def tw16531720768254161675:=0
noncomputable def tw11002614484984982940:=0
noncomputable def tw12151569978149940287:=0
noncomputable def tw16540074797808427771:=0
noncomputable def tw11934268078997702565:=0
noncomputable def tw9625999429031539791:=0
noncomputable def tw4733487011798635506:=0
noncomputable def tw15360162346078922690:=0
noncomputable def tw7816831317272601816:=0
noncomputable def tw15003505358159346830:=0
noncomputable def tw13180856507291525387:=0
noncomputable def tw8717113618062667276:=0
noncomputable def tw11559016389002146183:=0
noncomputable def tw17530222951469724728:=0
noncomputable def tw16420859884330320427:=0
noncomputable def tw1134537265562196112:=0
noncomputable def tw4665440311425576672:=0
noncomputable def tw16830119926958378402:=0
noncomputable def tw18424318547213149833:=0
noncomputable def tw14533519433843542720:=0
noncomputable def tw1439806185308031791:=0
noncomputable def tw3903436617537826186:=0
noncomputable def tw13239444400203743741:=0
noncomputable def tw161602934126533989:=0
noncomputable def tw15362110110072147434:=0
noncomputable def tw545788053898963145:=0
noncomputable def tw3118115823531559655:=0
noncomputable def tw9829822166278713433:=0
noncomputable def tw3429546601020987141:=0
noncomputable def tw966304959846892826:=0
noncomputable def tw12184251148323304032:=0
noncomputable def tw17208020260166917951:=0
noncomputable def tw13641240537097357666:=0
noncomputable def tw8665721152809702840:=0
noncomputable def tw16969991955798403742:=0
noncomputable def tw13593034720834671684:=0
noncomputable def tw3497861840716596750:=0
noncomputable def tw11362887492937976510:=0
noncomputable def tw13072913514298922871:=0
noncomputable def tw1685711020432550854:=0
noncomputable def tw15310460262489907884:=0
noncomputable def tw5120598101810971657:=0
noncomputable def tw10093109145000098311:=0
noncomputable def tw10400909102768753227:=0
noncomputable def tw2148592966103477836:=0
noncomputable def tw16392622591249309501:=0
noncomputable def tw9432117697073434586:=0
noncomputable def tw6831550378910951608:=0
noncomputable def tw7641846558369067860:=0
noncomputable def tw5486835450983441934:=0
noncomputable def tw2655307652436078255:=0
noncomputable def tw2585627239520869537:=0
noncomputable def tw3382554602495350634:=0
noncomputable def tw14047933561320572485:=0
noncomputable def tw2856066297303842285:=0
noncomputable def tw8228583979244265166:=0
noncomputable def tw4941318036072788173:=0
noncomputable def tw14722858512962732734:=0
noncomputable def tw8385920987173667139:=0
noncomputable def tw8564466911517122009:=0
noncomputable def tw2104493580474516560:=0
noncomputable def tw4938262667956027659:=0
noncomputable def tw10699242648716564022:=0
noncomputable def tw16318057901257667023:=0
noncomputable def tw16532967524982289383:=0
noncomputable def tw6363366768874389793:=0
noncomputable def tw10139172021485419459:=0
noncomputable def tw11216171019369199264:=0
noncomputable def tw13267158533372828412:=0
noncomputable def tw17963535418662803222:=0
noncomputable def tw17711873555306494173:=0
noncomputable def tw920019282292959607:=0
noncomputable def tw4710483781112035754:=0
noncomputable def tw8562271459772852182:=0
noncomputable def tw7384345618348693691:=0
noncomputable def tw2128240277691863896:=0
noncomputable def tw8816861588915176424:=0
noncomputable def tw6377074800111174804:=0
noncomputable def tw421225404580501405:=0
noncomputable def tw3015134222946703405:=0
noncomputable def tw13666056056458261179:=0
noncomputable def tw596574151880187955:=0
noncomputable def tw5696955090557723023:=0
noncomputable def tw16445819290918743871:=0
noncomputable def tw16067123954201839841:=0
noncomputable def tw13577324702305909416:=0
noncomputable def tw13109034122912152678:=0
noncomputable def tw1487654668219012377:=0
noncomputable def tw3851755601381976129:=0
noncomputable def tw2648604300908983554:=0
noncomputable def tw18300799570009773479:=0
noncomputable def tw5712806016437952479:=0
noncomputable def tw15396821620117644915:=0
noncomputable def tw6524224196057397286:=0
noncomputable def tw10965603464448985294:=0
noncomputable def tw6936375671083818147:=0
noncomputable def tw10788332934532541379:=0
noncomputable def tw5123952415075868121:=0
noncomputable def tw16664556801830882822:=0
noncomputable def tw12760998114480461056:=0
noncomputable def tw12414160801252197038:=0
noncomputable def tw5617739677108013316:=0
noncomputable def tw13780206495665636608:=0
noncomputable def tw5225407496729226870:=0
noncomputable def tw14203710278890428533:=0
noncomputable def tw7680477942271767098:=0
noncomputable def tw2083625227383146453:=0
noncomputable def tw10321139529983566123:=0
noncomputable def tw5954968358922536043:=0
noncomputable def tw9223433187003389999:=0
noncomputable def tw14767999345828168512:=0
noncomputable def tw12929380785887701937:=0
noncomputable def tw12879667176005163037:=0
noncomputable def tw16867159485672803861:=0
noncomputable def tw3925008059911659800:=0
noncomputable def tw5042488999399621167:=0
noncomputable def tw6611390863048089039:=0
noncomputable def tw3253758412869620050:=0
noncomputable def tw16082878088235900508:=0
noncomputable def tw128691767712250058:=0
noncomputable def tw11508467147109519993:=0
noncomputable def tw13237136505984720254:=0
noncomputable def tw5449027387918630105:=0
noncomputable def tw4955128164792339230:=0
noncomputable def tw5223750504829321766:=0
noncomputable def tw5702796662370322972:=0
noncomputable def tw18306340768209570919:=0
noncomputable def tw10492008177840823684:=0
noncomputable def tw15008631675439169070:=0
noncomputable def tw8962908416051716598:=0
noncomputable def tw9462785550631849265:=0
noncomputable def tw1191486438126131819:=0
noncomputable def tw9186929227001832526:=0
noncomputable def tw15384500594156091689:=0
noncomputable def tw13305709486397964769:=0
noncomputable def tw10735836129750575318:=0
noncomputable def tw14167557297331207656:=0
noncomputable def tw7953789744686449323:=0
noncomputable def tw2497618220772316208:=0
noncomputable def tw11277300375618049230:=0
noncomputable def tw13113622147895755706:=0
noncomputable def tw9420496692808729252:=0
noncomputable def tw12647276163231755287:=0
noncomputable def tw4101824537434720869:=0
noncomputable def tw5135582800954901114:=0
noncomputable def tw10480766497607153359:=0
noncomputable def tw260999920907126783:=0
noncomputable def tw4806440990352194738:=0
noncomputable def tw7541177488064058791:=0
noncomputable def tw763418503004567801:=0
noncomputable def tw17853409490326569777:=0
noncomputable def tw17261284778307917368:=0
noncomputable def tw18293477918532470915:=0
noncomputable def tw4287361770781295716:=0
noncomputable def tw13346872800714779212:=0
noncomputable def tw1001325940243599986:=0
noncomputable def tw13870122736265526651:=0
noncomputable def tw18185295048885609510:=0
noncomputable def tw10146912885630239957:=0
noncomputable def tw16872987962221172259:=0
noncomputable def tw11504081712131311703:=0
noncomputable def tw2535078288747708655:=0
noncomputable def tw16860834979193218139:=0
noncomputable def tw11024895584577558763:=0
noncomputable def tw2749786109676794198:=0
noncomputable def tw2363118239195370902:=0
noncomputable def tw12709851665159885251:=0
noncomputable def tw9970872716680775119:=0
noncomputable def tw16907570289931036427:=0
noncomputable def tw13120973835077774366:=0
noncomputable def tw7700772050792931166:=0
noncomputable def tw14814775678441465235:=0
noncomputable def tw1333624458072389502:=0
noncomputable def tw3295891341581935538:=0
noncomputable def tw18025056412109169905:=0
noncomputable def tw18277893696769735694:=0
noncomputable def tw1732684540005546503:=0
noncomputable def tw8471469612433808309:=0
noncomputable def tw6839958432914395267:=0
noncomputable def tw7236626514142117679:=0
noncomputable def tw12685224157897302952:=0
noncomputable def tw3570483645201061855:=0
noncomputable def tw7051038999284428015:=0
noncomputable def tw7237769293434146969:=0
noncomputable def tw12037867898970977587:=0
noncomputable def tw265031866019632330:=0
noncomputable def tw1500264147377267542:=0
noncomputable def tw4939504580689316276:=0
noncomputable def tw10424977581720476672:=0
noncomputable def tw2907518277728986204:=0
noncomputable def tw5312944256850388816:=0
noncomputable def tw9111024179272761287:=0
noncomputable def tw7231969155969156281:=0
noncomputable def tw6202073815042109121:=0
noncomputable def tw9988588156139571628:=0
noncomputable def tw11352758173707996014:=0
noncomputable def tw8598394282861546929:=0
noncomputable def tw1165015478194389359:=0
noncomputable def tw13957489513971160212:=0
noncomputable def tw4011373085930518414:=0
noncomputable def tw14306075590730961752:=0
noncomputable def tw7144833052353652718:=0
noncomputable def tw2312209496719821582:=0
noncomputable def tw17059761029788508617:=0
noncomputable def tw1339322103230988791:=0
noncomputable def tw589224441209361078:=0
noncomputable def tw5918515823469553479:=0
noncomputable def tw3190415477149573926:=0
noncomputable def tw3143918180113658144:=0
noncomputable def tw15016829465529109801:=0
noncomputable def tw3704871223397211558:=0
noncomputable def tw18136111501277250620:=0
noncomputable def tw17898537141826493756:=0
noncomputable def tw5858832652726441669:=0
noncomputable def tw4843930705765628759:=0
noncomputable def tw4463661389064003087:=0
noncomputable def tw4171692519875504326:=0
noncomputable def tw12240022727926736241:=0
noncomputable def tw10405286401822193609:=0
noncomputable def tw12065333592461995332:=0
noncomputable def tw9195928935861601826:=0
noncomputable def tw8198903259829006357:=0
noncomputable def tw13182390731877372022:=0
noncomputable def tw4960812809741154313:=0
noncomputable def tw15379736448131055332:=0
noncomputable def tw6497626864787500801:=0
noncomputable def tw5351958397459002009:=0
noncomputable def tw1683921646467710017:=0
noncomputable def tw3447296227222492043:=0
noncomputable def tw9548690040286777150:=0
noncomputable def tw1137285514914830123:=0
noncomputable def tw15381839047215984805:=0
noncomputable def tw12161044245826284352:=0
noncomputable def tw7166212159004044603:=0
noncomputable def tw541173131335209555:=0
noncomputable def tw3311804826089914748:=0
noncomputable def tw16182768082247164574:=0
noncomputable def tw9659223650897717460:=0
noncomputable def tw14628429329654110702:=0
noncomputable def tw6624376894642571564:=0
noncomputable def tw15855543535969988778:=0
noncomputable def tw4753861565247165056:=0
noncomputable def tw2047222946928035741:=0
noncomputable def tw7778860265693326925:=0
noncomputable def tw17629416786980007520:=0
noncomputable def tw5164976221544408207:=0
noncomputable def tw4671342452062353549:=0
noncomputable def tw13941810753264064370:=0
noncomputable def tw7975993685698054268:=0
noncomputable def tw6063403964547702536:=0
noncomputable def tw7422933542936585517:=0
noncomputable def tw8397544892897435524:=0
noncomputable def tw5240025722897314292:=0
noncomputable def tw1135427582091194339:=0
noncomputable def tw14252513318676014264:=0
noncomputable def tw13816188577087926335:=0
noncomputable def tw1338967877262414173:=0
noncomputable def tw11335111793334121954:=0
noncomputable def tw10956633066056258165:=0
noncomputable def tw12217352815100629235:=0
noncomputable def tw996514480876456132:=0
noncomputable def tw7176935710129183891:=0
noncomputable def tw17536949875809358862:=0
noncomputable def tw10147859838918072290:=0
noncomputable def tw13470507174141367831:=0
noncomputable def tw6656985532289770035:=0
noncomputable def tw10487550684386344906:=0
noncomputable def tw8518090868306005007:=0
noncomputable def tw13963816178082862633:=0
noncomputable def tw11221794333962531424:=0
noncomputable def tw3643860184262565827:=0
noncomputable def tw993994149602304262:=0
noncomputable def tw15659965159182361133:=0
noncomputable def tw10492311641289420043:=0
noncomputable def tw8553362378514183949:=0
noncomputable def tw4849747159265391144:=0
noncomputable def tw11683656207778592744:=0
noncomputable def tw11034251236248060640:=0
noncomputable def tw10066704540882980674:=0
noncomputable def tw17157073961918986972:=0
noncomputable def tw13072323289655879031:=0
noncomputable def tw7374040203891221424:=0
noncomputable def tw5598582335191150814:=0
noncomputable def tw12048675044542926632:=0
noncomputable def tw2887396183801253595:=0
noncomputable def tw6419269695637827145:=0
noncomputable def tw6041292825399298165:=0
noncomputable def tw3580097805582374038:=0
noncomputable def tw17143971559217556675:=0
noncomputable def tw1281148016037798973:=0
noncomputable def tw1598686740041018220:=0
noncomputable def tw2235142106223753592:=0
noncomputable def tw5395633718916691936:=0
noncomputable def tw5252984722014795837:=0
noncomputable def tw2725903154194059298:=0
noncomputable def tw8971557458307358388:=0
noncomputable def tw4704603010302239715:=0
noncomputable def tw363873925167917783:=0
noncomputable def tw2670917639638268705:=0
noncomputable def tw2566061321001295874:=0
noncomputable def tw17873035218204849273:=0
noncomputable def tw15173642005664255034:=0
noncomputable def tw12761230895470665289:=0
noncomputable def tw4626512691347254359:=0
noncomputable def tw9148900977290713181:=0
noncomputable def tw2532028510998783421:=0
noncomputable def tw16724819054439224259:=0
noncomputable def tw11278889258590521370:=0
noncomputable def tw15390168503196968578:=0
noncomputable def tw7492176322754987549:=0
noncomputable def tw16413260399875768577:=0
noncomputable def tw9497390586603332313:=0
noncomputable def tw16649805162434141113:=0
noncomputable def tw766257364204217042:=0
noncomputable def tw8373377559227295060:=0
noncomputable def tw13948276339228019623:=0
noncomputable def tw246675708688767538:=0
noncomputable def tw16368372583423285979:=0
noncomputable def tw4474938803716467134:=0
noncomputable def tw14892871186044649041:=0
noncomputable def tw12690926276591205896:=0
noncomputable def tw14214723987154293170:=0
noncomputable def tw16763949351913559974:=0
noncomputable def tw2548110566473299885:=0
noncomputable def tw14105612410931525306:=0
noncomputable def tw14113499497089230662:=0
noncomputable def tw14569625442532302647:=0
noncomputable def tw12017983713169891567:=0
noncomputable def tw9716559551826344357:=0
noncomputable def tw5034947847805013224:=0
noncomputable def tw17668145687930532777:=0
noncomputable def tw1672845169141788131:=0
noncomputable def tw14527078499424486328:=0
noncomputable def tw12544892558914516087:=0
noncomputable def tw12219437741877608778:=0
noncomputable def tw9971623879677127433:=0
noncomputable def tw4990242829457870934:=0
noncomputable def tw16545430798416887174:=0
noncomputable def tw15066133355675345081:=0
noncomputable def tw14899018290421629641:=0
noncomputable def tw12316538415377972792:=0
noncomputable def tw11172515343869407468:=0
noncomputable def tw500612420071309215:=0
noncomputable def tw11425799489532224669:=0
noncomputable def tw17319549119530043114:=0
noncomputable def tw15477577027565625754:=0
noncomputable def tw4966540043692648592:=0
noncomputable def tw14321895277723015074:=0
noncomputable def tw11025353655718429826:=0
noncomputable def tw3556962070330975736:=0
noncomputable def tw17130683643544061880:=0
noncomputable def tw13201094374397154726:=0
noncomputable def tw12225676749773816923:=0
noncomputable def tw6821273456945365614:=0
noncomputable def tw14336494221797298124:=0
noncomputable def tw9361432742163751446:=0
noncomputable def tw8048622567279200151:=0
noncomputable def tw2340223554107656232:=0
noncomputable def tw18417007847581105715:=0
noncomputable def tw12442341903121555337:=0
noncomputable def tw10481085129395933513:=0
noncomputable def tw18412642861010693208:=0
noncomputable def tw12669308500305360947:=0
noncomputable def tw1246655209838483107:=0
noncomputable def tw1105944640062020550:=0
noncomputable def tw10481606822210063658:=0
noncomputable def tw11946254164589043226:=0
noncomputable def tw9253601044036177033:=0
noncomputable def tw14154869241454625831:=0
noncomputable def tw12612476014132206632:=0
noncomputable def tw5135794800233731164:=0
noncomputable def tw1843958199770110978:=0
noncomputable def tw18193951076999216398:=0
noncomputable def tw14719390594992141692:=0
noncomputable def tw1182607905421856234:=0
noncomputable def tw11300617201462938622:=0
noncomputable def tw10859641899650328408:=0
noncomputable def tw9975903584932817586:=0
noncomputable def tw9816792024186907346:=0
noncomputable def tw9533509134650554503:=0
noncomputable def tw9525426856339731460:=0
noncomputable def tw913731628204105131:=0
noncomputable def tw8963903496052111258:=0
noncomputable def tw8937889412454495889:=0
noncomputable def tw8839859842667590762:=0
noncomputable def tw8717124572642813765:=0
noncomputable def tw8706283405169904055:=0
noncomputable def tw8657896144666179218:=0
noncomputable def tw8553316490523036419:=0
noncomputable def tw8290577371733336320:=0
noncomputable def tw8109820370402019487:=0
noncomputable def tw8099361246958024852:=0
noncomputable def tw802718750740519377:=0
noncomputable def tw7658438998737745914:=0
noncomputable def tw7294469553241351002:=0
noncomputable def tw7285486033457901215:=0
noncomputable def tw7231779074485771599:=0
noncomputable def tw7199160956585802287:=0
noncomputable def tw7063215748192674008:=0
noncomputable def tw6961716002746742397:=0
noncomputable def tw6901552386870669468:=0
noncomputable def tw6771159318908181328:=0
noncomputable def tw6267990663755525963:=0
noncomputable def tw6145818076229841911:=0
noncomputable def tw6133915729925932606:=0
noncomputable def tw5991350255731126780:=0
noncomputable def tw5948244051700884850:=0
noncomputable def tw5907560117924856538:=0
noncomputable def tw5615893464337985857:=0
noncomputable def tw549454953634742827:=0
noncomputable def tw5447352986963600559:=0
noncomputable def tw5375587166688195532:=0
noncomputable def tw5330749313204410052:=0
noncomputable def tw5229312908368713623:=0
noncomputable def tw5107762418536925671:=0
noncomputable def tw5028211346820034414:=0
noncomputable def tw4912349163136112930:=0
noncomputable def tw4811583665387334427:=0
noncomputable def tw4526550130775113836:=0
noncomputable def tw4505850858170047266:=0
noncomputable def tw4428386294945880480:=0
noncomputable def tw4296650390560334092:=0
noncomputable def tw4052467821130083651:=0
noncomputable def tw4016345683331678544:=0
noncomputable def tw3787765618854674079:=0
noncomputable def tw3768236993538308878:=0
noncomputable def tw3675683156470969079:=0
noncomputable def tw3472660955560076908:=0
noncomputable def tw3377370439931959013:=0
noncomputable def tw3351278451993094575:=0
noncomputable def tw3189759831145280173:=0
noncomputable def tw3085535127373907146:=0
noncomputable def tw3068596107289389337:=0
noncomputable def tw3066025750475138055:=0
noncomputable def tw2675680460256291932:=0
noncomputable def tw2390295005532134063:=0
noncomputable def tw2373276582855106746:=0
noncomputable def tw2253831997028657681:=0
noncomputable def tw2252108610725287269:=0
noncomputable def tw2180550608601649764:=0
noncomputable def tw1973262176431705663:=0
noncomputable def tw1949267321875478434:=0
noncomputable def tw1900554903320609530:=0
noncomputable def tw1889661683731806644:=0
noncomputable def tw18629703310169152:=0
noncomputable def tw18329139069359963085:=0
noncomputable def tw18058516293022690991:=0
noncomputable def tw17836541801323947424:=0
noncomputable def tw17690594146446655833:=0
noncomputable def tw1768289731423858821:=0
noncomputable def tw17671345387946572858:=0
noncomputable def tw17592452680436223392:=0
noncomputable def tw17555778552365808104:=0
noncomputable def tw17489779245207261885:=0
noncomputable def tw17457027935778176810:=0
noncomputable def tw1740755324108258415:=0
noncomputable def tw17400791984109485094:=0
noncomputable def tw17332891532889355769:=0
noncomputable def tw168576618031677512:=0
noncomputable def tw16844955789802679198:=0
noncomputable def tw1680658730112029495:=0
noncomputable def tw16801752662826647484:=0
noncomputable def tw16195278882148515636:=0
noncomputable def tw15973028994061255471:=0
noncomputable def tw15953306426588663988:=0
noncomputable def tw15870945179050713335:=0
noncomputable def tw15799656436263959609:=0
noncomputable def tw15773772156779462110:=0
noncomputable def tw15753724195395100:=0
noncomputable def tw15573783363755899705:=0
noncomputable def tw15466754891468453838:=0
noncomputable def tw15439304401989239034:=0
noncomputable def tw15390074286522540666:=0
noncomputable def tw15208401029892261123:=0
noncomputable def tw15166544654469378111:=0
noncomputable def tw15144345769449673255:=0
noncomputable def tw14990624038822341833:=0
noncomputable def tw14896267173488178209:=0
noncomputable def tw14872707694365715719:=0
noncomputable def tw14550513367593318811:=0
noncomputable def tw14525815383213847067:=0
noncomputable def tw14435971749034157129:=0
noncomputable def tw14373020334552561398:=0
noncomputable def tw14359972721859811718:=0
noncomputable def tw14228605985084126036:=0
noncomputable def tw13985141531118839066:=0
noncomputable def tw13968021367791001792:=0
noncomputable def tw1385164281989609754:=0
noncomputable def tw13849152714169565076:=0
noncomputable def tw13577391760933736764:=0
noncomputable def tw13358657335434562173:=0
noncomputable def tw13297408053905258334:=0
noncomputable def tw13285886968631538798:=0
noncomputable def tw12923227133416364460:=0
noncomputable def tw12919115604549691700:=0
noncomputable def tw12845754658460688786:=0
noncomputable def tw12810337386284036698:=0
noncomputable def tw12668432141687359562:=0
noncomputable def tw12409369085727376628:=0
noncomputable def tw12395856362563304356:=0
noncomputable def tw12391818212165650049:=0
noncomputable def tw12138185074297434865:=0
noncomputable def tw12038301737856984119:=0
noncomputable def tw12027839178134705573:=0
noncomputable def tw1201774265166192424:=0
noncomputable def tw1197456594460505609:=0
noncomputable def tw11420792777912873901:=0
noncomputable def tw11165257953408409060:=0
noncomputable def tw11110961476887032672:=0
noncomputable def tw11108320512533628047:=0
noncomputable def tw11004645925345027642:=0
noncomputable def tw10946244435332063125:=0
noncomputable def tw10841489082237438520:=0
noncomputable def tw10826457409958021917:=0
noncomputable def tw10768221733634030118:=0
noncomputable def tw10728494992397060351:=0
noncomputable def tw10675410551659944839:=0
noncomputable def tw104322745524906109:=0
noncomputable def tw10221889947628047250:=0
noncomputable def tw10039192243350562210:=0
end PySem.W.Fast
open PySem PySem.W PyProof.Rows
set_option maxRecDepth 100000 in
set_option maxHeartbeats 0 in
theorem PySem.Challenge.cw_floorfits_k97_whole_fills_told_otherwise_holds : PySem.Challenge.rw_floorfits_k97_whole_fills_told_otherwise.Holds := by
 w_on;o_law;k_head;(case hw=>w_witness2)
 k_fill
 refine M97.walk (l:=PySem.Challenge.rw_floorfits_k97_whole_fills_told_otherwise) rfl rfl (fun w h Y=>PySem.W.kIn_of Y) ?F
 case F =>
  intro w mg fa h KX G hmg;refine' M97.all_mk KX G hmg ?nyWays ?pgWays ?hdWays ?poWays ?saWays ?mkWays ?kpWays ?naWaystiles ?naWaysground ?naWayssize ?naWaysis_round ?naWaysknown ?a33 ?i33 ?l33 ?c33 ?k33 ?dk33 ?a63 ?l63 ?c63 ?k63 ?z1 ?z2 ?z3 ?z4 ?z5 ?z6 ?z7 ?z8 ?z9 ?z10 ?z11 ?z12 ?z13 ?z14 ?gl1 ?gl2 ?gl3 ?gl4 ?n0 ?x0 ?n1 ?x1 ?n2 ?x2 ?n3 ?x3 ?lk1 ?mr1 ?lk2 ?mr2 ?lk3 ?mr3 ?_ ?_ ?_ ?_ ?_ ?_ ?_ ?_ ?_ ?_ ?_ ?_ ?_ ?_ ?_ ?_ ?_ ?_ ?_ ?_ ?_ ?_ ?_ ?_ ?_ ?_ ?_ ?_ ?_ ?_ ?_ ?_ ?_ ?_ ?_ ?_ ?_ ?_ ?_ ?_ ?_ ?_ ?_ ?_ ?_ ?_ ?_ ?_ ?_ ?_ ?_ ?_ ?_ ?_ ?_ ?_ ?_ ?_ ?_ ?_ ?_
  (case nyWays=>k_is);(case pgWays=>k_is);(case hdWays=>k_is);(case poWays=>k_is)
  (case saWays=>k_is);(case mkWays=>k_is);(case kpWays=>k_is);(case naWaystiles=>k_is)
  (case naWaysground=>k_is);(case naWayssize=>k_is);(case naWaysis_round=>k_is);(case naWaysknown=>k_is)
  (case a33=>k_is);(case i33=>k_is);(case l33=>k_is);(case c33=>k_is)
  (case k33=>k_is);(case dk33=>k_is);(case a63=>k_is);(case l63=>k_is)
  (case c63=>k_is);(case k63=>k_is);(case z1=>k_is);(case z2=>k_is)
  (case z3=>k_is);(case z4=>k_is);(case z5=>k_is);(case z6=>k_is)
  (case z7=>k_is);(case z8=>k_is);(case z9=>k_is);(case z10=>k_is)
  (case z11=>k_is);(case z12=>k_is);(case z13=>k_is);(case z14=>k_is)
  (case gl1=>k_is);(case gl2=>k_is);(case gl3=>k_is);(case gl4=>k_is)
  (case n0=>k_is);(case x0=>k_exc);(case n1=>k_is);(case x1=>k_exc)
  (case n2=>k_is);(case x2=>k_exc);(case n3=>k_is);(case x3=>k_exc)
  (case lk1=>k_is);(case mr1=>with_unfolding_all rfl);(case lk2=>k_is);(case mr2=>with_unfolding_all rfl)
  (case lk3=>k_is);(case mr3=>with_unfolding_all rfl)
  all_goals ((first | refine' M97.gm ?a ?l ?c ?k ?i | refine' M97.mm ?a ?l ?c ?k ?i);(case a=>k_is);(case l=>k_is);(case c=>k_is);(case k=>k_is);(case i=>k_is))
#print axioms PySem.Challenge.cw_floorfits_k97_whole_fills_told_otherwise_holds
end
